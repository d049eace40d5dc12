/-
  ParseAgain: its walk.
-/
import Derived.Test.YtbkhhdfhcbjfbaaDoorKPAgain
import Derived.Test.YtbkhhdfhcbjfbaaDoorKPShowing
import Derived.Test.YtbkhhdfhcbjfbaaDoorGTop
namespace Go.Proofs.YtbkhhdfhcbjfbaaDoor
open Go Go.RowKit
set_option linter.unusedVariables false
set_option linter.unusedSimpArgs false

set_option maxHeartbeats 4000000 in
set_option maxRecDepth 100000 in
theorem parseAgain_walk (a0 : Option Addr) (n c : Nat) (l : List UInt8) (w : World) (hs : SliceAt w (.slice a0 n c) l) (hl : l.length = n) (htab : Lib.TabIs Tryd.prog w "internal/strconv.uint64pow10" .u64 Lib.pow10Tab) :
    Calls Tryd.prog 3 #[.slice a0 n c] w fun e w' => e = .returned (.bool true) ∧ Below w.heap.size w w' := by
  have HS := Lib.hid hs; have HL := Lib.hid hl; have HTAB := Lib.hid htab
  clear hs hl htab
  go_enter Tryd.func3, Tryd.ntmps3
  go_wp2_with fail
  refine (livesP_any _).mono ?_
  rintro e w1 ⟨rfl, hb1⟩
  have HB1 := Lib.hid hb1; clear hb1
  by_cases hlong : 1500 < n
  · have hl2 : (1500 : Int) < (n : Int) := by omega
    go_wp2_with fail
    refine (livesP_any _).mono ?_
    rintro e w2 ⟨rfl, hb2⟩
    have HB2 := Lib.hid (HB1.out.trans (hb2.mono HB1.out.size)); clear hb2
    go_wp2_with fail
    go_ret
    exact ⟨rfl, HB2.out⟩
  · have hl2 : ¬ (1500 : Int) < (n : Int) := by omega
    go_wp2_with fail
    refine (Program_any _ l _ (sliceAt_below HS.out HB1.out)).mono ?_
    rintro e w2 ⟨hb2, hres⟩
    have HB2 := Lib.hid (HB1.out.trans (hb2.mono HB1.out.size)); clear hb2
    generalize hout : Px.program l = out at *
    cases out with
    | lex p =>
      obtain rfl : e = _ := hres
      go_wp2_with fail
      go_ret
      exact ⟨rfl, HB2.out.alloc HB2.out.size _⟩
    | parse p =>
      obtain rfl : e = _ := hres
      go_wp2_with fail
      go_ret
      exact ⟨rfl, HB2.out.alloc HB2.out.size _⟩
    | done q =>
      obtain ⟨v, rfl, hnew⟩ := hres
      have hprog := hnew.now
      have hnow : ProgAt 50 (w2.alloc (.cells v.cells 27)) v q := hnew _ (fun b _ hb => by
        show (w2.heap.push _)[b]? = _
        rw [Array.getElem?_push, if_neg (by omega)])
      clear hnew
      have hwt := Px.program_weight l q hout
      have hwh := Px.program_whole l q hout
      have hag := Px.program_again l q hout
      have hno := Px.showProg_no q
      have HOUT := Lib.hid hout; have HPR := Lib.hid hprog; have HWT := Lib.hid hwt; have HWH := Lib.hid hwh; have HAG := Lib.hid hag; have HNO := Lib.hid hno
      obtain ⟨q1, c1, q2, c2, rfl⟩ := progAt_form hprog
      have HNEW := Lib.hid hnow
      clear hout hprog hwt hwh hag hno hnow
      generalize q.datas.length = nd at *
      generalize q.defs.length = nf at *
      go_wp2_with fail
      have hal : Below w2.heap.size w2 (w2.alloc (.cells #[.slice q1 nd c1, .slice q2 nf c2] 27)) := (Below.refl _ _).alloc (Nat.le_refl _) _
      have HB3 := Lib.hid (HB2.out.trans (hal.mono HB2.out.size))
      refine (showing_any _ q _ HNEW.out HWH.out (by have := HWT.out; omega) ((Lib.tabBelow_of_tabIs HTAB.out) _ HB3.out)).mono ?_
      rintro e w4 ⟨rfl, hb4⟩
      have HB4 := Lib.hid (HB3.out.trans (hb4.mono HB3.out.size))
      clear hb4 hal
      obtain ⟨T, hT⟩ : ∃ T, T = Px.showProg 50 q := ⟨_, rfl⟩
      have hag := HAG.out
      have hno := HNO.out
      rw [← hT] at hag hno ⊢
      have HTT := Lib.hid hT; have HAG2 := Lib.hid hag; have HNO2 := Lib.hid hno
      clear hT hag hno HAG HNO
      by_cases hbig : 4096 < T.length
      · have hbi : (4096 : Int) < (T.length : Int) := by omega
        go_wp2_with fail
        go_ret
        exact ⟨rfl, HB4.out⟩
      · have hbi : ¬ (4096 : Int) < (T.length : Int) := by omega
        obtain ⟨q', hq1, hq2⟩ := HAG2.out (by omega)
        have hcv := conv_text w4 T
        have hpt := program_of_text w4 T (by omega)
        rw [hq1] at hpt
        have HPT := Lib.hid hpt; have HQ1 := Lib.hid hq1; have HQ2 := Lib.hid hq2
        clear hpt hq1 hq2
        go_wp2_with fail
        refine HPT.out.mono ?_
        rintro e w5 ⟨hb5, v2, rfl, hnew2⟩
        have HB5 := Lib.hid (HB4.out.trans ((Lib.bytesWorld_below w4 5 ⟨T.toArray⟩).trans (hb5.mono (by rw [Lib.bytesWorld_size]; omega)) |>.mono HB4.out.size))
        have hnow2 : ProgAt 50 (w5.alloc (.cells v2.cells 27)) v2 q' := hnew2 _ (fun b _ hb => by
          show (w5.heap.push _)[b]? = _
          rw [Array.getElem?_push, if_neg (by omega)])
        obtain ⟨q3, c3, q4, c4, rfl⟩ := progAt_form hnew2.now
        have HNEW2 := Lib.hid hnow2
        clear hb5 hnew2 hnow2 HPT
        generalize q'.datas.length = nd2 at *
        generalize q'.defs.length = nf2 at *
        have hwh2 := Px.program_whole T q' HQ1.out
        have hwt2 : (Px.showProg 50 q').length ≤ 800000 := by rw [HQ2.out]; omega
        have HWH2 := Lib.hid hwh2; have HWT2 := Lib.hid hwt2
        clear hwh2 hwt2 hcv
        go_wp2_with fail
        have hal : Below w5.heap.size w5 (w5.alloc (.cells #[.slice q3 nd2 c3, .slice q4 nf2 c4] 27)) := (Below.refl _ _).alloc (Nat.le_refl _) _
        have HB6 := Lib.hid (HB5.out.trans (hal.mono HB5.out.size))
        refine (showing_any _ q' _ HNEW2.out HWH2.out HWT2.out ((Lib.tabBelow_of_tabIs HTAB.out) _ HB6.out)).mono ?_
        rw [HQ2.out]
        rintro e w7 ⟨rfl, hb7⟩
        have HB7 := Lib.hid (HB6.out.trans (hb7.mono HB6.out.size))
        clear hb7 hal
        go_wp2_with fail
        go_ret
        refine ⟨?_, HB7.out⟩
        have hne : (T == [63]) = false := by
          rw [beq_eq_false_iff_ne]
          exact HNO2.out
        show Ending.returned (.bool (!(T == [63]))) = _
        rw [hne]; rfl

theorem parseAgain_row (w : World) (a0 : Option Addr) (len0 cap0 : Nat) (z0 : List Int) (w0 : IsRow .u8 w a0 len0 cap0 z0) (hL : laidMetH Tryd.prog laidList w) :
    Calls Tryd.prog 3 #[.slice a0 len0 cap0] w fun e w' => e = .returned (.bool true) ∧ Below w.heap.size w w' := by
  obtain ⟨_, t0, l0, _⟩ := row_src w0
  exact parseAgain_walk a0 len0 cap0 _ w t0 l0 (pow_table hL)
end Go.Proofs.YtbkhhdfhcbjfbaaDoor
