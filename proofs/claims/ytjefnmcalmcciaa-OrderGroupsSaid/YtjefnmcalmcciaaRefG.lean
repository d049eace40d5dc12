/-
  The document's answer: groups. (Written by gen/refg.py.)
-/
import Derived.Test.YtjefnmcalmcciaaRefN
namespace Go.Proofs.Ytjefnmcalmcciaa
open Go Go.RowKit
set_option linter.unusedVariables false
set_option linter.unusedSimpArgs false

def RefPost (ls : List (List Int)) (w0 : World) (e : Ending) (w : World) : Prop :=
  (allB ls.length ls = false ∧ e = .returned (.tuple #[.slice none 0 0, .int .i64 1]) ∧ Below w0.heap.size w0 w) ∨
  (allB ls.length ls = true ∧ ∃ L lv, e = .returned (.tuple #[lv, .int .i64 0]) ∧ Gr.IsGroups (natG ls) L ∧ RowsAt w lv (ints L) ∧ Below w0.heap.size w0 w)

set_option maxHeartbeats 4000000 in
set_option maxRecDepth 100000 in
theorem refGroups_any (v : Value) (ls : List (List Int)) (w : World) (h : RowsAt w v ls) (hs : ls.length ≤ 1000000) (hl : ∀ l ∈ ls, l.length ≤ 1000000000) :
    Calls Try.prog 12 #[v] w (RefPost ls w) := by
  obtain ⟨p, c, rfl⟩ := h.len
  have HR := Lib.hid h; have HLB := Lib.hid hl
  clear h hl
  have hmk := makeBools ls.length (by omega)
  go_enter Try.func12, Try.ntmps12
  go_wp2_with fail
  go_loop [5] (fun i => ∃ k : Nat, i = .int .i64 k ∧ k ≤ ls.length ∧ Hid (∀ (j : Nat) (l : List Int), j < k → ls[j]? = some l → rowB ls.length l = true)) (fun i => ls.length - (intOf i).toNat)
  case atStart => exact ⟨0, rfl, Nat.zero_le _, Lib.hid (fun j l hj => absurd hj (Nat.not_lt_zero j))⟩
  case round =>
    obtain ⟨k, rfl, hk, HK⟩ := hrel
    by_cases hlt : k < ls.length
    · obtain ⟨l, hl⟩ : ∃ l, ls[k]? = some l := ⟨_, List.getElem?_eq_getElem hlt⟩
      obtain ⟨b, o, q, d, rfl, hc, _, hnc, hcell, hrow⟩ := HR.out.at hl
      have HL := Lib.hid hl; have HW := Lib.hid hrow
      have hki : (k : Int) < ls.length := by omega
      clear hl hrow
      go_wp2
      go_loop [6] (fun i => ∃ e : Nat, i = .int .i64 e ∧ e ≤ l.length ∧ Hid (∀ (j : Nat) (x : Int), j < e → l[j]? = some x → okB ls.length x = true)) (fun i => l.length - (intOf i).toNat)
      case atStart => exact ⟨0, rfl, Nat.zero_le _, Lib.hid (fun j l hj => absurd hj (Nat.not_lt_zero j))⟩
      case round =>
        obtain ⟨e, rfl, he, HE⟩ := hrel
        by_cases hel : e < l.length
        · obtain ⟨x, hx⟩ : ∃ x, l[e]? = some x := ⟨_, List.getElem?_eq_getElem hel⟩
          obtain ⟨b2, o2, rfl, hc2, _, hnc2, hcell2⟩ := HW.out.at hx
          have HX := Lib.hid hx
          clear hx
          by_cases hx0 : x < 0
          · have hno := row_no (n := ls.length) HX.out (.inl hx0)
            have HN := Lib.hid (all_no HL.out hno)
            clear hno
            go_wp2
            go_ret2
            exact .inl ⟨HN.out, rfl, Below.refl _ _⟩
          · by_cases hxn : (ls.length : Int) ≤ x
            · have hno := row_no (n := ls.length) HX.out (.inr hxn)
              have HN := Lib.hid (all_no HL.out hno)
              clear hno
              go_wp2
              go_ret2
              exact .inl ⟨HN.out, rfl, Below.refl _ _⟩
            · have hok : okB ls.length x = true := by unfold okB; simp; omega
              have HOK := Lib.hid hok
              clear hok
              go_wp2
              go_round
              case rel => exact ⟨e + 1, by go_num, by omega, Lib.hid (fun j y hj hy => by
                by_cases hje : j = e
                · subst hje; rw [HX.out] at hy; rw [← Option.some.inj hy]; exact HOK.out
                · exact HE.out j y (by omega) hy)⟩
              case measure => simp [intOf]; omega
        · have hrow : rowB ls.length l = true := row_yes fun j x hj => HE.out j x (by have := Gr.some_lt hj; omega) hj
          have HROW := Lib.hid hrow
          clear hrow
          go_wp2
          go_round
          case rel => exact ⟨k + 1, by go_num, by omega, Lib.hid (fun j y hj hy => by
            by_cases hje : j = k
            · subst hje; rw [HL.out] at hy; rw [← Option.some.inj hy]; exact HROW.out
            · exact HK.out j y (by omega) hy)⟩
          case measure => simp [intOf]; omega
    · have hall : allB ls.length ls = true := all_yes fun j l hj => HK.out j l (by have := Gr.some_lt hj; omega) hj
      have HALL := Lib.hid hall
      have hg : RowsAt w (.slice p (natG ls).length c) (ints (natG ls)) := by rw [natG_len, ints_natG hall]; exact HR.out
      have HG := Lib.hid hg; have HGOOD := Lib.hid (good_natG hall)
      have hll : ∀ l ∈ natG ls, l.length ≤ 1000000000 := fun l hl => by
        obtain ⟨l0, h0, rfl⟩ := List.mem_map.1 hl
        have := HLB.out l0 h0; simpa using this
      have HLL := Lib.hid hll
      have hnl : ls.length = (natG ls).length := (natG_len ls).symm
      have hfin : ∀ L lv W, Gr.IsGroups (natG ls) L → RowsAt W lv (ints L) → Below w.heap.size w W → RefPost ls w (.returned (.tuple #[lv, .int .i64 0])) W := fun L lv W h1 h2 h3 => .inr ⟨HALL.out, L, lv, rfl, h1, h2, h3⟩
      have HFIN := Lib.hid hfin
      have hki : ¬ ((k : Int) < ls.length) := by omega
      generalize hQ : RefPost ls w = Q at *
      have hlt2 : ¬ k < (natG ls).length := by omega
      have hki2 : ¬ ((k : Int) < (natG ls).length) := by omega
      have hk2 : k ≤ (natG ls).length := by omega
      rw [hnl] at hs hmk ⊢
      clear hki hk
      clear hg hall hll hnl hfin HALL HK HR HLB hQ hlt
      generalize natG ls = g at *
      go_wp2_with fail
      refine (reach_any _ g _ HG.out HGOOD.out hs HLL.out).mono ?_
      rintro e w1 ⟨rv, bs, R, rfl, hmat, hbl, hR, hb1⟩
      obtain ⟨p7, c7, rfl⟩ := own_form hmat.own
      rw [hbl] at hmat ⊢
      have HMAT := Lib.hid hmat; have HBL := Lib.hid hbl; have HRR := Lib.hid hR; have HB1 := Lib.hid hb1
      clear hmat hbl hR hb1
      have hst : GSt g.length w1 w1.heap.size (.slice none 0 0) [] [] (w1.alloc (.cells (madeCells #[(.bool false : Value)] g.length) 4)) := ⟨[], OutAt.nil _ _, by unfold BoolsAt; rw [ent_new, madeBools]; simp, (Below.refl _ _).alloc (Nat.le_refl _) _⟩
      have HST : Hid (∃ L, Gr.Part g L ∧ (0 : Nat) = L.flatten.length ∧ GSt g.length w1 w1.heap.size (.slice none 0 0) L L.flatten (w1.alloc (.cells (madeCells #[(.bool false : Value)] g.length) 4))) := Lib.hid ⟨[], Gr.Part.nil g, rfl, hst⟩
      clear hst
      go_wp2_with fail
      clear hmk hki2 hlt2
      go_loopw [9, 10] (fun ov c wr => ∃ k : Nat, c = .int .i64 k ∧ k ≤ g.length ∧ Hid (∃ L, Gr.Part g L ∧ k = L.flatten.length ∧ GSt g.length w1 w1.heap.size ov L L.flatten wr)) (fun _ c _ => g.length - (intOf c).toNat)
      case atStart => exact ⟨0, rfl, Nat.zero_le _, HST⟩
      case round =>
        clear HST
        obtain ⟨cnt, rfl, hcnt, HST⟩ := hrel
        by_cases hcn : cnt < g.length
        · obtain ⟨L, hpart, hcl, hst⟩ := HST.out
          have hci : (cnt : Int) < g.length := by omega
          have HPART := Lib.hid hpart; have HCL := Lib.hid hcl
          have hopen : ∃ j, j < g.length ∧ j ∉ L.flatten ∧ Gr.Ready g L.flatten j := by
            obtain ⟨i, h1, h2⟩ := Gr.exists_open (F := L.flatten) (n := g.length) (by omega)
            exact Gr.exists_next HGOOD.out hpart h1 h2
          have HOPEN := Lib.hid hopen
          have HGS := Lib.hid hst
          clear hpart hcl hst hopen HST
          go_wp2_with fail
          go_loopw [9, 10, 11] (fun ov c iv wr => ov = u9 ∧ c = .int .i64 cnt ∧ ∃ i : Nat, iv = .int .i64 i ∧ i ≤ g.length ∧ Hid (GSt g.length w1 w1.heap.size u9 L L.flatten wr) ∧ Hid (∀ j, j < i → j ∉ L.flatten → ¬ Gr.Ready g L.flatten j)) (fun _ _ i _ => g.length - (intOf i).toNat)
          case atStart => exact ⟨rfl, rfl, 0, rfl, Nat.zero_le _, HGS, Lib.hid (fun j hj => absurd hj (Nat.not_lt_zero _))⟩
          case round =>
            clear HGS
            obtain ⟨rfl, rfl, i, rfl, hi, HGS, HLOW⟩ := hrel
            by_cases hin : i < g.length
            · rename World => wB
              obtain ⟨vs, hout, hdone, hbe⟩ := HGS.out
              have hii : (i : Int) < g.length := by omega
              have hmatB := HMAT.out.below hbe
              obtain ⟨bi, hbi⟩ : ∃ x, bs[i]? = some x := ⟨_, List.getElem?_eq_getElem (by rw [HBL.out]; exact hin)⟩
              obtain ⟨gr, hp7, ci⟩ := hmatB.at hbi
              subst hp7
              obtain ⟨d0, hd0⟩ : ∃ d0, d0 = decide (i ∈ L.flatten) := ⟨_, rfl⟩
              have fD := hdone.cell hin
              rw [← hd0] at fD
              have HMATB := Lib.hid hmatB; have HBI := Lib.hid hbi; have HDONE := Lib.hid hdone; have HCI := Lib.hid ci
              have HKR : Hid (KRel L.flatten R i wB 0 (.bool (!d0)) (.slice none 0 0) wB) := Lib.hid ⟨_, [], rfl, by rw [hd0]; exact Gr.Rdy.start _ _ _, World.ownsRow_nil _ _ _ _, Below.refl _ _⟩
              have hdlt : w1.heap.size < wB.heap.size := ent_lt hdone
              have HDLT := Lib.hid hdlt
              clear hout hdone hbe hmatB hbi hd0 ci hdlt
              go_wp2_with fail
              clear fD
              go_loopw [12, 13, 14] (fun rdv lv kv wx => ∃ k : Nat, kv = .int .i64 k ∧ k ≤ g.length ∧ Hid (KRel L.flatten R i wB k rdv lv wx)) (fun _ _ k _ => g.length - (intOf k).toNat)
              case atStart => exact ⟨0, rfl, Nat.zero_le _, HKR⟩
              case round =>
                clear HKR
                obtain ⟨k, rfl, hkk, HKR⟩ := hrel
                obtain ⟨rd, lst, rfl, hrdy, hown, hbx⟩ := HKR.out
                by_cases hkn : k < g.length
                · have hki : (k : Int) < g.length := by omega
                  obtain ⟨bk, hbk⟩ : ∃ x, bs[k]? = some x := ⟨_, List.getElem?_eq_getElem (by rw [HBL.out]; exact hkn)⟩
                  obtain ⟨gr', hp7', ck⟩ := HMATB.out.at hbk
                  injection hp7' with hp7'
                  injection hp7' with hp7' _ _
                  subst hp7'
                  have FI := Lib.hid ((HMATB.out.row i bi HBI.out).1.cell hkn)
                  have FK := Lib.hid ((HMATB.out.row k bk hbk).1.cell hin)
                  have FD := Lib.hid (HDONE.out.cell hkn)
                  have HCK := Lib.hid ck; have HRDY := Lib.hid hrdy; have HOWN := Lib.hid hown; have HBX := Lib.hid hbx
                  have hlen : lst.length ≤ g.length := by rw [hrdy.lst]; have := List.length_filter_le (fun x => Gr.mutB R i x) (List.range k); rw [List.length_range] at this; omega
                  have hmutB : Gr.mutB R i k = (decide (k = i) || (R i k && R k i)) := rfl
                  have HMB := Lib.hid hmutB; have HLEN := Lib.hid hlen
                  clear hbk ck hrdy hown hbx hmutB hlen HKR
                  by_cases hki2 : k = i
                  · have hbq : ((k : Int) == (i : Int)) = true := by rw [hki2]; simp
                    cases hx : R i k with
                    | false =>
                      have ci := cell_up HBX.out HCI.out; have ck := cell_up HBX.out HCK.out; have fi := cell_up HBX.out FI.out; have fk := cell_up HBX.out FK.out; have fD := cell_up HBX.out FD.out
                      rw [hx] at fi
                      have hmb : Gr.mutB R i k = true := by rw [HMB.out]; simp [hki2, hx]
                      have HMT := Lib.hid hmb
                      have hownN : wr.ownsRow wB.heap.size 3 1 u13 lst.length (zvs (nums lst)) := by have e9 : ivs lst = zvs (nums lst) := (by simp [ivs, zvs, nums, iv]); rw [← e9]; exact HOWN.out
                      have HOWNN := Lib.hid (hownN.alloc (.cells #[.int .i64 (k : Int)] 3))
                      have HINO := Lib.hid (show IntsAt (wr.alloc (.cells #[.int .i64 (k : Int)] 3)) (.slice (some ⟨wr.heap.size, 0, none⟩) 1 1) [(k : Int)] from ints_one (ent_new wr _ _))
                      have HBS := Lib.hid (show wB.heap.size ≤ (wr.alloc (.cells #[.int .i64 (k : Int)] 3)).heap.size by have := HBX.out.size; simp; omega)
                      have HLN := Lib.hid (show (nums lst).length + [(k : Int)].length ≤ 1000000000 by rw [nums_len]; have := HLEN.out; simp; omega)
                      have HNL : Hid (lst.length = (nums lst).length) := Lib.hid (nums_len _).symm
                      clear hownN hmb hki2
                      go_wp2_with (at_builtin; go_loud (refine wpList_append_ints _ rfl (.tmp 96) (.tmp 98) rfl wB.heap.size _ lst.length (nums lst) [(k : Int)] rfl HNL.out HOWNN.out _ rfl HINO.out HLN.out HBS.out ?_))
                      intro v5 w5 hown5 hgr5 hlo5
                      clear ci ck fi fk fD
                      have hb5 : Below wB.heap.size wB w5 := (HBX.out.alloc HBX.out.size _).grown hgr5 (by have := HBX.out.size; simp; omega) (fun kk hkk => (HOWN.out.lt kk hkk).1)
                      have HB5 := Lib.hid hb5
                      have hown6 : w5.ownsRow wB.heap.size 3 1 v5 (lst ++ [k]).length (ivs (lst ++ [k])) := by
                        have e1 : (lst ++ [k]).length = (nums lst).length + 1 := by simp [nums]
                        have e2 : ivs (lst ++ [k]) = zvs (nums lst ++ [(k : Int)]) := by simp [ivs, zvs, nums, iv]
                        rw [e1, e2]; exact hown5
                      have HN : Hid (KRel L.flatten R i wB (k + 1) (.bool rd) v5 w5) := Lib.hid ⟨rd, _, rfl, HRDY.out.mut HMT.out, hown6, hb5⟩
                      clear hown5 hown6 hgr5 hlo5 hb5
                      have ci := cell_up HB5.out HCI.out; have ck := cell_up HB5.out HCK.out; have fi := cell_up HB5.out FI.out; have fk := cell_up HB5.out FK.out; have fD := cell_up HB5.out FD.out
                      rw [hx] at fi
                      clear hx
                      go_wp2
                      go_roundw
                      case rel => exact ⟨k + 1, by go_num, by omega, HN⟩
                      case measure => simp [intOf]; omega
                    | true =>
                      have ci := cell_up HBX.out HCI.out; have ck := cell_up HBX.out HCK.out; have fi := cell_up HBX.out FI.out; have fk := cell_up HBX.out FK.out; have fD := cell_up HBX.out FD.out
                      rw [hx] at fi
                      have hmb : Gr.mutB R i k = true := by rw [HMB.out]; simp [hki2, hx]
                      have HMT := Lib.hid hmb
                      have hownN : wr.ownsRow wB.heap.size 3 1 u13 lst.length (zvs (nums lst)) := by have e9 : ivs lst = zvs (nums lst) := (by simp [ivs, zvs, nums, iv]); rw [← e9]; exact HOWN.out
                      have HOWNN := Lib.hid (hownN.alloc (.cells #[.int .i64 (k : Int)] 3))
                      have HINO := Lib.hid (show IntsAt (wr.alloc (.cells #[.int .i64 (k : Int)] 3)) (.slice (some ⟨wr.heap.size, 0, none⟩) 1 1) [(k : Int)] from ints_one (ent_new wr _ _))
                      have HBS := Lib.hid (show wB.heap.size ≤ (wr.alloc (.cells #[.int .i64 (k : Int)] 3)).heap.size by have := HBX.out.size; simp; omega)
                      have HLN := Lib.hid (show (nums lst).length + [(k : Int)].length ≤ 1000000000 by rw [nums_len]; have := HLEN.out; simp; omega)
                      have HNL : Hid (lst.length = (nums lst).length) := Lib.hid (nums_len _).symm
                      clear hownN hmb hki2
                      go_wp2_with (at_builtin; go_loud (refine wpList_append_ints _ rfl (.tmp 96) (.tmp 98) rfl wB.heap.size _ lst.length (nums lst) [(k : Int)] rfl HNL.out HOWNN.out _ rfl HINO.out HLN.out HBS.out ?_))
                      intro v5 w5 hown5 hgr5 hlo5
                      clear ci ck fi fk fD
                      have hb5 : Below wB.heap.size wB w5 := (HBX.out.alloc HBX.out.size _).grown hgr5 (by have := HBX.out.size; simp; omega) (fun kk hkk => (HOWN.out.lt kk hkk).1)
                      have HB5 := Lib.hid hb5
                      have hown6 : w5.ownsRow wB.heap.size 3 1 v5 (lst ++ [k]).length (ivs (lst ++ [k])) := by
                        have e1 : (lst ++ [k]).length = (nums lst).length + 1 := by simp [nums]
                        have e2 : ivs (lst ++ [k]) = zvs (nums lst ++ [(k : Int)]) := by simp [ivs, zvs, nums, iv]
                        rw [e1, e2]; exact hown5
                      have HN : Hid (KRel L.flatten R i wB (k + 1) (.bool rd) v5 w5) := Lib.hid ⟨rd, _, rfl, HRDY.out.mut HMT.out, hown6, hb5⟩
                      clear hown5 hown6 hgr5 hlo5 hb5
                      have ci := cell_up HB5.out HCI.out; have ck := cell_up HB5.out HCK.out; have fi := cell_up HB5.out FI.out; have fk := cell_up HB5.out FK.out; have fD := cell_up HB5.out FD.out
                      rw [hx] at fi
                      clear hx
                      go_wp2
                      go_roundw
                      case rel => exact ⟨k + 1, by go_num, by omega, HN⟩
                      case measure => simp [intOf]; omega
                  · have hbq : ((k : Int) == (i : Int)) = false := beq_eq_false_iff_ne.2 (fun e => hki2 (Int.ofNat_inj.1 e))
                    cases hx : R i k with
                    | false =>
                      have ci := cell_up HBX.out HCI.out; have ck := cell_up HBX.out HCK.out; have fi := cell_up HBX.out FI.out; have fk := cell_up HBX.out FK.out; have fD := cell_up HBX.out FD.out
                      rw [hx] at fi
                      have hmb : Gr.mutB R i k = false := by rw [HMB.out]; simp [hki2, hx]
                      have HN : Hid (KRel L.flatten R i wB (k + 1) (.bool rd) u13 wr) := Lib.hid ⟨rd, _, rfl, HRDY.out.pass hmb (.inl hx), HOWN.out, HBX.out⟩
                      clear hmb hx
                      clear hki2
                      go_wp2
                      go_roundw
                      case rel => exact ⟨k + 1, by go_num, by omega, HN⟩
                      case measure => simp [intOf]; omega
                    | true =>
                      cases hy : R k i with
                      | true =>
                        have ci := cell_up HBX.out HCI.out; have ck := cell_up HBX.out HCK.out; have fi := cell_up HBX.out FI.out; have fk := cell_up HBX.out FK.out; have fD := cell_up HBX.out FD.out
                        rw [hx] at fi
                        rw [hy] at fk
                        have hmb : Gr.mutB R i k = true := by rw [HMB.out]; simp [hki2, hx, hy]
                        have HMT := Lib.hid hmb
                        have hownN : wr.ownsRow wB.heap.size 3 1 u13 lst.length (zvs (nums lst)) := by have e9 : ivs lst = zvs (nums lst) := (by simp [ivs, zvs, nums, iv]); rw [← e9]; exact HOWN.out
                        have HOWNN := Lib.hid (hownN.alloc (.cells #[.int .i64 (k : Int)] 3))
                        have HINO := Lib.hid (show IntsAt (wr.alloc (.cells #[.int .i64 (k : Int)] 3)) (.slice (some ⟨wr.heap.size, 0, none⟩) 1 1) [(k : Int)] from ints_one (ent_new wr _ _))
                        have HBS := Lib.hid (show wB.heap.size ≤ (wr.alloc (.cells #[.int .i64 (k : Int)] 3)).heap.size by have := HBX.out.size; simp; omega)
                        have HLN := Lib.hid (show (nums lst).length + [(k : Int)].length ≤ 1000000000 by rw [nums_len]; have := HLEN.out; simp; omega)
                        have HNL : Hid (lst.length = (nums lst).length) := Lib.hid (nums_len _).symm
                        clear hownN hmb hki2
                        go_wp2_with (at_builtin; go_loud (refine wpList_append_ints _ rfl (.tmp 96) (.tmp 98) rfl wB.heap.size _ lst.length (nums lst) [(k : Int)] rfl HNL.out HOWNN.out _ rfl HINO.out HLN.out HBS.out ?_))
                        intro v5 w5 hown5 hgr5 hlo5
                        clear ci ck fi fk fD
                        have hb5 : Below wB.heap.size wB w5 := (HBX.out.alloc HBX.out.size _).grown hgr5 (by have := HBX.out.size; simp; omega) (fun kk hkk => (HOWN.out.lt kk hkk).1)
                        have HB5 := Lib.hid hb5
                        have hown6 : w5.ownsRow wB.heap.size 3 1 v5 (lst ++ [k]).length (ivs (lst ++ [k])) := by
                          have e1 : (lst ++ [k]).length = (nums lst).length + 1 := by simp [nums]
                          have e2 : ivs (lst ++ [k]) = zvs (nums lst ++ [(k : Int)]) := by simp [ivs, zvs, nums, iv]
                          rw [e1, e2]; exact hown5
                        have HN : Hid (KRel L.flatten R i wB (k + 1) (.bool rd) v5 w5) := Lib.hid ⟨rd, _, rfl, HRDY.out.mut HMT.out, hown6, hb5⟩
                        clear hown5 hown6 hgr5 hlo5 hb5
                        have ci := cell_up HB5.out HCI.out; have ck := cell_up HB5.out HCK.out; have fi := cell_up HB5.out FI.out; have fk := cell_up HB5.out FK.out; have fD := cell_up HB5.out FD.out
                        rw [hx] at fi
                        rw [hy] at fk
                        clear hx
                        clear hy
                        go_wp2
                        go_roundw
                        case rel => exact ⟨k + 1, by go_num, by omega, HN⟩
                        case measure => simp [intOf]; omega
                      | false =>
                        by_cases hd : k ∈ L.flatten
                        · skip
                          have ci := cell_up HBX.out HCI.out; have ck := cell_up HBX.out HCK.out; have fi := cell_up HBX.out FI.out; have fk := cell_up HBX.out FK.out; have fD := cell_up HBX.out FD.out
                          rw [hx] at fi
                          rw [hy] at fk
                          rw [show decide (k ∈ L.flatten) = true from by simp [hd]] at fD
                          have hmb : Gr.mutB R i k = false := by rw [HMB.out]; simp [hki2, hx, hy]
                          have HN : Hid (KRel L.flatten R i wB (k + 1) (.bool rd) u13 wr) := Lib.hid ⟨rd, _, rfl, HRDY.out.pass hmb (.inr hd), HOWN.out, HBX.out⟩
                          clear hmb hx
                          clear hy
                          clear hd
                          clear hki2
                          go_wp2
                          go_roundw
                          case rel => exact ⟨k + 1, by go_num, by omega, HN⟩
                          case measure => simp [intOf]; omega
                        · skip
                          have ci := cell_up HBX.out HCI.out; have ck := cell_up HBX.out HCK.out; have fi := cell_up HBX.out FI.out; have fk := cell_up HBX.out FK.out; have fD := cell_up HBX.out FD.out
                          rw [hx] at fi
                          rw [hy] at fk
                          rw [show decide (k ∈ L.flatten) = false from by simp [hd]] at fD
                          have hmb : Gr.mutB R i k = false := by rw [HMB.out]; simp [hki2, hx, hy]
                          have HN : Hid (KRel L.flatten R i wB (k + 1) (.bool false) u13 wr) := Lib.hid ⟨false, _, rfl, HRDY.out.no hmb hx hd, HOWN.out, HBX.out⟩
                          clear hmb hx
                          clear hy
                          clear hd
                          clear hki2
                          go_wp2
                          go_roundw
                          case rel => exact ⟨k + 1, by go_num, by omega, HN⟩
                          case measure => simp [intOf]; omega
                · have hkg : k = g.length := by omega
                  have HB2 := Lib.hid hbx
                  rw [hkg] at hrdy
                  obtain ⟨hlst, hrd⟩ := hrdy.done HGOOD.out HRR.out hin
                  have HGS2 := Lib.hid (HGS.out.below hbx)
                  have HLST := Lib.hid hlst; have HRD := Lib.hid hrd; have HOWN := Lib.hid hown
                  clear hrdy hown hbx hlst hrd hkg HKR
                  cases rd with
                  | false =>
                    have HNL : Hid (∀ j, j < i + 1 → j ∉ L.flatten → ¬ Gr.Ready g L.flatten j) := Lib.hid (fun j hj hn hr => by
                      by_cases e : j = i
                      · subst e; have := HRD.out.2 ⟨hn, hr⟩; cases this
                      · exact HLOW.out j (by omega) hn hr)
                    go_wp2
                    go_roundw
                    case rel => exact ⟨rfl, rfl, i + 1, by go_num, by omega, HGS2, HNL⟩
                    case measure => simp [intOf]; omega
                  | true =>
                    obtain ⟨hnF, hrdyi⟩ := HRD.out.1 rfl
                    have HNX : Hid (Gr.Next g L.flatten i) := Lib.hid ⟨hin, hnF, hrdyi, fun j hj hn hr => HLOW.out j hj hn hr⟩
                    obtain ⟨pl, cl, rfl⟩ := own_form HOWN.out
                    have hlle : lst.length ≤ g.length := by rw [HLST.out]; exact Gr.nodup_le g.length _ (Gr.grp_nodup g i) (fun x hx => (Gr.mem_grp.1 hx).1)
                    have hlx : ∀ x ∈ lst, x < g.length := fun x hx => by rw [HLST.out] at hx; exact (Gr.mem_grp.1 hx).1
                    have HLX := Lib.hid hlx
                    have hlli : (lst.length : Int) ≤ 1000000 := by omega
                    have HMK : Hid (GSt g.length w1 w1.heap.size u9 L (L.flatten ++ lst.take 0) wr ∧ wr.ownsRow wB.heap.size 3 1 (.slice pl lst.length cl) lst.length (ivs lst)) := Lib.hid ⟨by simpa using HGS2.out, HOWN.out⟩
                    clear hnF hrdyi hlx HGS2 HB2
                    go_wp2_with fail
                    go_loopw [10, 16] (fun c ev wy => ∃ e : Nat, ev = .int .i64 e ∧ c = .int .i64 ((cnt + e : Nat) : Int) ∧ e ≤ lst.length ∧ Hid (GSt g.length w1 w1.heap.size u9 L (L.flatten ++ lst.take e) wy ∧ wy.ownsRow wB.heap.size 3 1 (.slice pl lst.length cl) lst.length (ivs lst))) (fun _ e _ => lst.length - (intOf e).toNat)
                    case atStart => exact ⟨0, rfl, rfl, Nat.zero_le _, HMK⟩
                    case round =>
                      clear HMK
                      obtain ⟨e, rfl, rfl, he, HMK⟩ := hrel
                      obtain ⟨hgs, hown⟩ := HMK.out
                      by_cases hel : e < lst.length
                      · obtain ⟨x, hx⟩ : ∃ x, lst[e]? = some x := ⟨_, List.getElem?_eq_getElem hel⟩
                        have hxn := HLX.out x (List.mem_of_getElem? hx)
                        have hxi : (x : Int) < g.length := by omega
                        have hei : (e : Int) < lst.length := by omega
                        have hpl : ∃ gl, pl = some ⟨gl, 0, none⟩ := by
                          rcases hown.2 with ⟨h1, h2⟩ | ⟨g', cap, cur, h1, _⟩
                          · omega
                          · injection h1 with h1 _ _; exact ⟨g', h1⟩
                        obtain ⟨gl, rfl⟩ := hpl
                        have fx := own_cellAt hown (ivs_at hx)
                        obtain ⟨vs2, ho2, hd2, hb2⟩ := hgs
                        have fD := hd2.cell hxn
                        have zD := hd2.free x
                        have hst : lst.take e ++ [x] = lst.take (e + 1) := by
                          have e2 : lst[e] = x := by rw [List.getElem?_eq_getElem hel] at hx; exact Option.some.inj hx
                          rw [List.take_succ_eq_append_getElem hel, e2]
                        have hm := GSt.mark (D := w1.heap.size) (show GSt g.length w1 w1.heap.size u9 L (L.flatten ++ lst.take e) wr from ⟨vs2, ho2, hd2, hb2⟩) (Nat.le_refl _) x
                        rw [List.append_assoc, hst] at hm
                        have HN : Hid (GSt g.length w1 w1.heap.size u9 L (L.flatten ++ lst.take (e + 1)) (wr.setCell ⟨w1.heap.size, x, none⟩ (.bool true)) ∧ (wr.setCell ⟨w1.heap.size, x, none⟩ (.bool true)).ownsRow wB.heap.size 3 1 (.slice (some ⟨gl, 0, none⟩) lst.length cl) lst.length (ivs lst)) := Lib.hid ⟨hm, own_other hown w1.heap.size x _ (fun hc => by have := (hown.lt _ hc).1; have := HDLT.out; omega)⟩
                        clear ho2 hd2 hb2 hm hst hown hx HMK
                        have hce : ((cnt + e : Nat) : Int) + 1 = ((cnt + (e + 1) : Nat) : Int) := by omega
                        go_wp2
                        go_roundw
                        case rel => exact ⟨e + 1, by go_num, by go_num, by omega, HN⟩
                        case measure => simp [intOf]; omega
                      · have hee : e = lst.length := by omega
                        subst hee
                        rw [List.take_length] at hgs
                        obtain ⟨vs2, ho2, hd2, hb2⟩ := hgs
                        have hL1 : L.length + 1 ≤ 1000000 := by have h1 := HPART.out.len_le; have h2 := HCL.out; omega
                        have hz : w1.heap.size ≤ (wr.alloc (.cells #[.slice pl lst.length cl] 30)).heap.size := by have := hb2.size; simp; omega
                        have HO2 := Lib.hid ho2; have HD2 := Lib.hid hd2; have HB3 := Lib.hid hb2; have HL1 := Lib.hid hL1; have HZ := Lib.hid hz
                        have HU := Lib.hid (own_base hown (show w1.heap.size ≤ wB.heap.size by have := HDLT.out; omega))
                        clear ho2 hd2 hb2 hL1 hz hown HMK
                        go_wp2_with (at_builtin; go_loud (refine wpList_append_rows _ rfl (.tmp 134) (.tmp 136) rfl w1.heap.size _ L.length vs2 rfl (HO2.out.own.alloc _) (some ⟨wr.heap.size, 0, none⟩) 1 1 rfl [.slice pl lst.length cl] rfl (.inr ⟨_, 0, rfl, fun j u hh => by rw [Nat.zero_add, ← add0]; exact new_one wr _ _ j u hh⟩) (by intro u hu; rw [List.mem_singleton.1 hu]; rfl) HL1.out HZ.out ?_))
                        intro v9 w9 hown9 hgr9 hlo9
                        have hpart' := HPART.out.snoc HNX.out
                        rw [← HLST.out] at hpart'
                        have hfl : (L ++ [lst]).flatten = L.flatten ++ lst := by simp
                        have hcnt2 : cnt + lst.length = (L ++ [lst]).flatten.length := by rw [hfl, List.length_append, ← HCL.out]
                        have hcnt3 : cnt + lst.length ≤ g.length := by rw [hcnt2]; exact hpart'.le HGOOD.out
                        have hpos : 0 < lst.length := by rw [HLST.out]; exact List.length_pos_of_mem (Gr.mem_grp.2 ⟨hin, .refl _ _⟩)
                        have hD9 : BoolsAt w9 w1.heap.size g.length (fun x => decide (x ∈ (L ++ [lst]).flatten)) := by
                          rw [hfl]
                          refine ((hgr9.block _ (by have := ent_lt HD2.out; simp; omega) (fun e => ?_)).trans (Below.heap_alloc wr _ _ (ent_lt HD2.out))).trans HD2.out
                          obtain ⟨cs, hc⟩ := own_type HO2.out.own e.symm
                          have hd := HD2.out
                          unfold BoolsAt at hd
                          rw [hc] at hd
                          injection hd with hd
                          injection hd with _ hd _
                          exact absurd hd (by decide)
                        have hb9 : Below w1.heap.size w1 w9 := (HB3.out.alloc HB3.out.size _).grown hgr9 HZ.out (fun kk hkk => (HO2.out.own.lt kk hkk).1)
                        have HN : Hid (∃ L, Gr.Part g L ∧ (cnt + lst.length) = L.flatten.length ∧ GSt g.length w1 w1.heap.size v9 L L.flatten w9) := Lib.hid ⟨L ++ [lst], hpart', hcnt2, _, HO2.out.push HU.out hown9 hgr9, hD9, hb9⟩
                        clear hown9 hgr9 hlo9 hpart' hfl hcnt2 hD9 hb9 HO2 HD2 HB3 HU
                        go_wp2
                        go_roundw
                        case rel => exact ⟨cnt + lst.length, by go_num, hcnt3, HN⟩
                        case measure => simp [intOf]; omega
            · have hig : i = g.length := by omega
              obtain ⟨j, h1, h2, h3⟩ := HOPEN.out
              exact absurd h3 (HLOW.out j (by omega) h2)
        · obtain ⟨L, hpart, hcl, vs, hout, hdone, hbe⟩ := HST.out
          have hgr := hpart.whole HGOOD.out (by omega)
          obtain ⟨p9, c9, rfl⟩ := own_form hout.own
          have hrows := hout.rows
          have HGR := Lib.hid hgr; have HROWS := Lib.hid hrows; have HBE := Lib.hid hbe
          clear hpart hcl hout hdone hbe hgr hrows HST
          go_wp2
          exact HFIN.out L _ _ HGR.out HROWS.out (HB1.out.trans (HBE.out.mono HB1.out.size))
end Go.Proofs.Ytjefnmcalmcciaa
