/-
  OrderRings: its walk.
-/
import Derived.Test.YtjefnmcalmcciaaRingP
import Derived.Test.YtjefnmcalmcciaaMoreP
namespace Go.Proofs.Ytjefnmcalmcciaa
open Go Go.RowKit
set_option linter.unusedVariables false
set_option linter.unusedSimpArgs false

def RingRel (K : Nat) (w1 : World) (mv av bv : Value) (k : Nat) (wr : World) : Prop := ∃ vs, RingAt w1.heap.size K wr mv av bv vs k k k ∧ Below w1.heap.size w1 wr

set_option maxHeartbeats 4000000 in
set_option maxRecDepth 100000 in
theorem orderRings_walk (w : World) (a : Int) (hwa : (Lit.int .u8 a).wf = true) :
    Calls Try.prog 7 #[.int .u8 a] w fun e w' => e = .returned (.bool true) ∧ Below w.heap.size w w' := by
  have ha : 0 ≤ a ∧ a ≤ 255 := by simp [Lit.wf, IntKind.min, IntKind.max, IntKind.bits, IntKind.signed] at hwa; omega
  obtain ⟨K, hK⟩ : ∃ K : Nat, 1 + a % 40 = (K : Int) := ⟨(1 + a % 40).toNat, by omega⟩
  have hK1 : 0 < K := by omega
  have hK2 : K ≤ 40 := by omega
  have hKn : ¬ ((K : Int) = 0) := by omega
  go_enter Try.func7, Try.ntmps7
  go_wp2_with fail
  refine (lives_any _).mono ?_
  rintro e w1 ⟨rfl, hb1⟩
  have HB1 := Lib.hid hb1; clear hb1
  have HR0 : Hid (RingRel K w1 (.slice none 0 0) (.slice none 0 0) (.slice none 0 0) 0 w1) := Lib.hid ⟨[], RingAt.nil _ _ _, Below.refl _ _⟩
  go_wp2_with fail
  try rw [hK]
  clear hK ha hwa
  go_loopw [4, 5, 6, 21] (fun mv av bv i wr => ∃ k : Nat, i = .int .i64 k ∧ k ≤ K ∧ Hid (RingRel K w1 mv av bv k wr)) (fun _ _ _ i _ => K - (intOf i).toNat)
  case atStart => exact ⟨0, rfl, Nat.zero_le _, HR0⟩
  case round =>
    clear HR0
    obtain ⟨k, rfl, hk, HRR⟩ := hrel
    obtain ⟨vs, hra, hbe⟩ := HRR.out
    have HRA := Lib.hid hra; have HBE := Lib.hid hbe
    by_cases hkK : k < K
    · obtain ⟨r, hr⟩ : ∃ r : Nat, r = (k + 1) % K := ⟨_, rfl⟩
      have hrlt : r < K := by rw [hr]; exact Nat.mod_lt _ hK1
      have hT1 : ((k : Int) + 1).tmod (K : Int) = (r : Int) := by rw [hr]; rfl
      have hT2 : ((k : Int) + 1) % (K : Int) = (r : Int) := by rw [hr]; rfl
      have HRV := Lib.hid hr
      have HO0 := Lib.hid ((hra.own.alloc (.cells #[.int .i64 (r : Int)] 3)).alloc (.cells #[.slice (some ⟨wr.heap.size, 0, none⟩) 1 1] 30))
      have HZ0 := Lib.hid (show w1.heap.size ≤ ((wr.alloc (.cells #[.int .i64 (r : Int)] 3)).alloc (.cells #[.slice (some ⟨wr.heap.size, 0, none⟩) 1 1] 30)).heap.size by have := hbe.size; simp; omega)
      have HK9 := Lib.hid (show k + 1 ≤ 1000000 by omega)
      clear hra hbe HRR hr
      go_wp2_with (at_builtin; go_loud (refine wpList_append_rows _ rfl (.tmp 24) (.tmp 30) rfl w1.heap.size _ k vs rfl HO0.out (some ⟨wr.heap.size + 1, 0, none⟩) 1 1 rfl [.slice (some ⟨wr.heap.size, 0, none⟩) 1 1] rfl (.inr ⟨_, 0, rfl, fun j u hh => new_at _ _ (by simp) hh⟩) (by intro u hu; rw [List.mem_singleton.1 hu]; rfl) HK9.out HZ0.out ?_))
      intro v4 w4 hown4 hgr4 hlo4
      have hra4 := HRA.out.push (y := (r : Int)) (by rw [HRV.out]) hown4 hgr4
      have hb4 : Below w1.heap.size w1 w4 := ((HBE.out.alloc HBE.out.size _).alloc (by have := HBE.out.size; simp; omega) _).grown hgr4 HZ0.out (fun kk hkk => (HRA.out.own.lt kk hkk).1)
      have HRA4 := Lib.hid hra4; have HB4 := Lib.hid hb4
      obtain ⟨p4, c4, rfl⟩ := own_form hown4
      have HINO := Lib.hid (show IntsAt (w4.alloc (.cells #[.int .i64 (k : Int)] 3)) (.slice (some ⟨w4.heap.size, 0, none⟩) 1 1) [(k : Int)] from ints_one (ent_new w4 _ _))
      have HBS := Lib.hid (show w1.heap.size ≤ (w4.alloc (.cells #[.int .i64 (k : Int)] 3)).heap.size by have := hb4.size; simp; omega)
      have HLN := Lib.hid (show (upto k).length + [(k : Int)].length ≤ 1000000000 by rw [upto_len]; simp; omega)
      have HAL := Lib.hid (hra4.al.alloc (.cells #[.int .i64 (k : Int)] 3))
      clear hown4 hgr4 hlo4 hra4 hb4 HRA HBE HO0 HZ0 HRV hT1 hT2
      go_wp2_with (at_builtin; go_loud (refine wpList_append_ints _ rfl (.tmp 32) (.tmp 34) rfl w1.heap.size _ k (upto k) [(k : Int)] rfl (upto_len k).symm HAL.out _ rfl HINO.out HLN.out HBS.out ?_))
      intro v5 w5 hown5 hgr5 hlo5
      have hown5n : w5.ownsRow w1.heap.size 3 1 v5 (k + 1) (zvs (upto (k + 1))) := by rw [upto_succ]; simpa [upto_len] using hown5
      have hra5 := HRA4.out.all hown5n hgr5 (fun b hb => (hlo5 b hb).imp id (fun h => by omega))
      have hb5 : Below w1.heap.size w1 w5 := (HB4.out.alloc HB4.out.size _).grown hgr5 HBS.out (fun kk hkk => (HRA4.out.al.lt kk hkk).1)
      obtain ⟨p5, c5, rfl⟩ := own_form hown5n
      have HRA5 := Lib.hid hra5; have HB5 := Lib.hid hb5
      obtain ⟨p6, c6, rfl⟩ := own_form hra5.bk
      have HLIT := Lib.hid (own_lit w5 (k : Int) (base := w1.heap.size) hb5.size)
      have HBK := Lib.hid ((own_intsI hra5.bk).below ((Below.refl _ _).alloc (Nat.le_refl _) (.cells #[.int .i64 (k : Int)] 3)))
      have HZ6 := Lib.hid (show w1.heap.size ≤ (w5.alloc (.cells #[.int .i64 (k : Int)] 3)).heap.size by have := hb5.size; simp; omega)
      have HL6 := Lib.hid (show [(k : Int)].length + (downI k).length ≤ 1000000000 by rw [downI_len]; simp; omega)
      have hdl := downI_len k
      have HDL := Lib.hid hdl
      clear hown5 hown5n hgr5 hlo5 hra5 hb5 HRA4 HB4 HINO HBS HLN HAL hdl
      go_wp2_with (at_builtin; go_loud (refine wpList_append_ints _ rfl (.tmp 37) (.tmp 38) rfl w1.heap.size _ 1 [(k : Int)] (downI k) rfl rfl HLIT.out _ rfl HBK.out HL6.out HZ6.out ?_))
      intro v6 w6 hown6 hgr6 hlo6
      have hb6 : Below w5.heap.size w5 w6 := ((Below.refl _ _).alloc (Nat.le_refl _) _).grown hgr6 (by simp) (fun kk hkk => by
        have : kk = w5.heap.size := by simpa [Value.ownBlock] using hkk.symm
        omega)
      have hown6n : w6.ownsRow w1.heap.size 3 1 v6 (k + 1) (zvs (downI (k + 1))) := by
        have e : ([(k : Int)] ++ downI k).length = k + 1 := by simp [downI_len]
        have e2 : [(k : Int)] ++ downI k = downI (k + 1) := rfl
        have h9 : w6.ownsRow w1.heap.size 3 1 v6 ([(k : Int)] ++ downI k).length (zvs ([(k : Int)] ++ downI k)) := by simpa using hown6
        rw [e, e2] at h9; exact h9
      have hra6 := HRA5.out.back hown6n hb6 (fun b hb => by
        rcases hlo6 b hb with h1 | h1
        · have : b = w5.heap.size := by simpa [Value.ownBlock] using h1.symm
          omega
        · omega)
      have HNEW : Hid (RingRel K w1 (.slice p4 (k + 1) c4) (.slice p5 (k + 1) c5) v6 (k + 1) w6) := Lib.hid ⟨_, hra6, HB5.out.trans (hb6.mono HB5.out.size)⟩
      clear hown6 hown6n hgr6 hlo6 hb6 hra6 HRA5 HB5 HLIT HBK HZ6 HL6 HDL
      go_wp2
      go_roundw
      case rel => exact ⟨k + 1, by go_num, by omega, HNEW⟩
      case measure => simp [intOf]; omega
    · have hkk : k = K := by omega
      subst hkk
      obtain ⟨p4, c4, rfl⟩ := own_form hra.own
      obtain ⟨p5, c5, rfl⟩ := own_form hra.al
      obtain ⟨p6, c6, rfl⟩ := own_form hra.bk
      have hp4 : ∃ g, p4 = some ⟨g, 0, none⟩ := by
        rcases hra.own.2 with ⟨h1, h2⟩ | ⟨g, cap, cur, h1, _⟩
        · omega
        · injection h1 with h1 _ _; exact ⟨g, h1⟩
      obtain ⟨g4, rfl⟩ := hp4
      have HROW := Lib.hid hra.rows
      have HL1 : Hid ((ringI k).length ≤ 100000000) := Lib.hid (by rw [ringI_len]; omega)
      have HS1 : Hid (Gr.sumN ((ringI k).map List.length) ≤ 100000000) := Lib.hid (by
        have := sum_ones (ls := ringI k) (fun l hl => by obtain ⟨i, _, rfl⟩ := List.mem_map.1 hl; exact Nat.le_refl _)
        rw [ringI_len] at this; omega)
      have HL2 : Hid ((lineI k).length ≤ 100000000) := Lib.hid (by rw [lineI_len]; omega)
      have HS2 : Hid (Gr.sumN ((lineI k).map List.length) ≤ 100000000) := Lib.hid (by
        have := sum_ones (ls := lineI k) (fun l hl => by obtain ⟨i, _, rfl⟩ := List.mem_map.1 hl; split <;> simp)
        rw [lineI_len] at this; omega)
      clear hra hbe HRR
      go_wp2_with fail
      refine (Groups_new _ (ringI k) _ HROW.out HL1.out HS1.out).mono ?_
      intro e w7 hp7
      obtain ⟨q7, d7, rfl, hnew7, hb7⟩ : ∃ q d, e = .returned (.tuple #[.slice q 1 d, .int .i64 0]) ∧ RowsNew wr.heap.size w7 (.slice q 1 d) [upto k] ∧ Below wr.heap.size wr w7 := by
        rcases hp7 with ⟨h1, _⟩ | ⟨h1, L, lv, rfl, h2, h3, h4, h5⟩
        · rw [ringI_all hK1] at h1; cases h1
        · rw [ringI_nat] at h2
          obtain rfl := h2.uniq (Gr.ring_groups hK1)
          obtain ⟨q, d, rfl⟩ := h3.at.len
          exact ⟨q, d, rfl, h3, h5⟩
      have HN7 := Lib.hid hnew7; have HB7 := Lib.hid hb7
      have hlow := HRA.out.own.lt g4 rfl
      have fz : w7.frozen? ⟨g4, k - 1, none⟩ = false := by
        rw [show w7.frozen? ⟨g4, k - 1, none⟩ = wr.frozen? ⟨g4, k - 1, none⟩ by unfold World.frozen?; rw [hb7.block g4 hlow.2]]
        exact own_free HRA.out.own _
      have hki : (k : Int) - 1 = ((k - 1 : Nat) : Int) := by omega
      have hkl : ((k - 1 : Nat) : Int) < (k : Int) := by omega
      have hkl2 : k - 1 < k := by omega
      obtain ⟨bz, hbz, _, _⟩ := HRA.out.row (k - 1) hkl2
      have cz : w7.cell? ⟨g4, k - 1, none⟩ = some (.slice (some ⟨bz, 0, none⟩) 1 1) := (hb7.cell hlow.2).trans (own_cellAt HRA.out.own hbz)
      have hrow8 := HRA.out.cut hb7 hK1
      have hset : Below wr.heap.size wr w7 := hb7
      have hl8 : RowsAt (w7.setCell ⟨g4, k - 1, none⟩ (.slice none 0 0)) (.slice q7 1 d7) [upto k] := hnew7 _ fun b hb hl => Below.heap_setCell w7 _ _ b (fun e => by subst e; omega)
      have hbe8 : Below w1.heap.size w1 (w7.setCell ⟨g4, k - 1, none⟩ (.slice none 0 0)) := (HBE.out.trans (hb7.mono HBE.out.size)).setCell (p := ⟨g4, k - 1, none⟩) hlow.1 _
      have hal8 : IntsAt (w7.setCell ⟨g4, k - 1, none⟩ (.slice none 0 0)) (.slice p5 k c5) (upto k) := by
        refine own_intsI (own_other (own_same HRA.out.al fun b hb => hb7.block b (HRA.out.al.lt b hb).2) g4 (k - 1) _ ?_)
        exact fun hc => own_type_ne HRA.out.al HRA.out.own (by decide) hc rfl
      have hbk8 : IntsAt (w7.setCell ⟨g4, k - 1, none⟩ (.slice none 0 0)) (.slice p6 k c6) (downI k) := by
        refine own_intsI (own_other (own_same HRA.out.bk fun b hb => hb7.block b (HRA.out.bk.lt b hb).2) g4 (k - 1) _ ?_)
        exact fun hc => own_type_ne HRA.out.bk HRA.out.own (by decide) hc rfl
      have HROW8 := Lib.hid hrow8; have HL8 := Lib.hid hl8; have HBE8 := Lib.hid hbe8; have HAL8 := Lib.hid hal8; have HBK8 := Lib.hid hbk8
      clear hp7 hnew7 hb7 hrow8 hset hl8 hbe8 hal8 hbk8 hbz HRA HROW HN7 HB7 HBE HL1 HS1 hlow
      go_wp2_with fail
      clear fz cz hki hkl hkl2
      generalize hw8 : w7.setCell ⟨g4, k - 1, none⟩ (.slice none 0 0) = w8 at *
      clear hw8
      refine (Groups_any _ (lineI k) _ HROW8.out HL2.out HS2.out).mono ?_
      intro e w9 hp9
      obtain ⟨q9, d9, rfl, hrow9, hb9⟩ : ∃ q d, e = .returned (.tuple #[.slice q k d, .int .i64 0]) ∧ RowsAt w9 (.slice q k d) (ints (Gr.lineL k)) ∧ Below w8.heap.size w8 w9 := by
        rcases hp9 with ⟨h1, _⟩ | ⟨h1, L, lv, rfl, h2, h3, h4, h5⟩
        · rw [lineI_all] at h1; cases h1
        · rw [lineI_nat] at h2
          obtain rfl := h2.uniq (Gr.line_groups k)
          obtain ⟨q, d, rfl⟩ := h3.len
          have e : (ints (Gr.lineL k)).length = k := by simp [ints, Gr.lineL]
          rw [e] at h3 ⊢
          exact ⟨q, d, rfl, h3, h5⟩
      have HROW9 := Lib.hid hrow9; have HB9 := Lib.hid (HBE8.out.trans (hb9.mono HBE8.out.size))
      have hl9 := HL8.out.below hb9
      obtain ⟨bl, ol, ql, dl, el, hcl, hzl, hdl, fl, il⟩ := hl9.at (i := 0) (l := upto k) rfl
      subst el
      rw [upto_len] at fl il
      have IL := Lib.hid il; have IA := Lib.hid (HAL8.out.below hb9); have IB := Lib.hid (HBK8.out.below hb9)
      have HU : Hid ((upto k).length ≤ 1000000000) := Lib.hid (by rw [upto_len]; omega)
      rw [Nat.add_zero] at fl
      clear hp9 hrow9 hb9 hl9 il hzl HROW8 HL8 HBE8 HAL8 HBK8 HL2 HS2
      go_wp2_with fail
      refine (equal_any _ _ (upto k) (upto k) _ IL.out IA.out HU.out HU.out).mono ?_
      rintro e w10 ⟨rfl, hq⟩
      rw [show decide (upto k = upto k) = true by simp]
      have HB10 : Hid (Below w9.heap.size w9 w10) := Lib.hid (by obtain ⟨nq, rfl⟩ := hq; exact below_drewN (Below.refl _ _) _)
      have HRM := Lib.hid (HROW9.out.below HB10.out); have HRB := Lib.hid (IB.out.below HB10.out)
      have HBW := Lib.hid (HB1.out.trans ((HB9.out.trans (HB10.out.mono HB9.out.size)).mono HB1.out.size))
      clear hq fl IL IA IB HU HROW9 HB9 HB10
      go_wp2_with fail
      go_loopw [82] (fun i wx => ∃ j m : Nat, i = .int .i64 j ∧ j ≤ k ∧ wx = w10.drewN m) (fun i _ => k - (intOf i).toNat)
      case atStart => exact ⟨0, 0, rfl, Nat.zero_le _, rfl⟩
      case round =>
        obtain ⟨j, m, rfl, hj, hwx⟩ := hrel
        subst hwx
        by_cases hjk : j < k
        · have hlj : (Gr.lineL k)[j]? = some [k - 1 - j] := by simp [Gr.lineL, hjk]
          obtain ⟨bm, om, qm, dm, em, hcm, hzm, hdm, fm, im⟩ := HRM.out.at (ints_at hlj)
          subst em
          have hn1 : (nums [k - 1 - j]).length = 1 := rfl
          rw [hn1] at fm im
          obtain ⟨be, oe, ee, hce, hze, hde, fe⟩ := im.at (i := 0) (x := ((k - 1 - j : Nat) : Int)) rfl
          subst ee
          obtain ⟨bb, ob, eb, hcb, hzb, hdb, fb⟩ := HRB.out.at (downI_at k hjk)
          subst eb
          rw [Nat.add_zero] at fe
          have hji : (j : Int) < (k : Int) := by omega
          obtain ⟨r, hr⟩ : ∃ r : Nat, r = k - 1 - j := ⟨_, rfl⟩
          rw [← hr] at fe fb
          have hq : ((r : Int) != (r : Int)) = false := by simp
          clear hlj hzm hn1 im hze hzb hr
          go_wp2_with fail
          go_quiet (fail)
          go_wp2
          go_roundw
          case rel => exact ⟨j + 1, _, by go_num, by omega, rfl⟩
          case measure => simp [intOf]; omega
        · go_wp2
          go_ret
          exact ⟨rfl, below_drewN HBW.out _⟩
end Go.Proofs.Ytjefnmcalmcciaa
