/-
  Several texts in one: UTx, UEach, URVars.
-/
import Derived.Test.YtcblppojnailpaaDoorG11
import Derived.Test.YtcblppojnailpaaDoorG03
import Derived.Test.YtcblppojnailpaaDoorG04
import Derived.Test.YtcblppojnailpaaDoorG02
import Derived.Test.YtcblppojnailpaaDoorG07
import Derived.BigQuiet
import Derived.WalkSmall
namespace Go.Proofs.YtcblppojnailpaaDoor
open Go Go.RowKit
set_option linter.unusedVariables false
set_option linter.unusedSimpArgs false
theorem own_setAt {w : World} {base e size n g cap : Nat} {xs : List Value} (h : w.ownsRow base e size (.slice (some ⟨g, 0, none⟩) n cap) n xs) (j : Nat) (u : Value) (hj : j < xs.length) : (w.setCell ⟨g, j, none⟩ u).ownsRow base e size (.slice (some ⟨g, 0, none⟩) n cap) n (xs.set j u) := by
 refine ⟨by rw [List.length_set]; exact h.1, ?_⟩
 rcases h.2 with ⟨h1, _⟩ | ⟨g', cap', cur, h1, hb, hg, h2, h3, h4, h5⟩
 · cases h1
 · injection h1 with e1 e2 e3
   injection e1 with e1
   injection e1 with e1 _ _
   subst e1; subst e3
   refine .inr ⟨g, cap, cur.setIfInBounds j u, rfl, hb, ent_set hg j u, h2, h3, by simpa using h4, ?_⟩
   rw [Array.toList_setIfInBounds, List.take_set, h5]
/-- A list without its first element, in memory. -/
theorem frV_tail {w0 : World} {gr of rc : Nat} {p9 : Option Addr} {x : Ux.Ty} {r : List Ux.Ty} (h : FrV w0 (.slice (some ⟨gr, of, none⟩) (r.length + 1) rc) (x :: r)) (hp : 0 < r.length → p9 = some ⟨gr, of + 3, none⟩) : FrV w0 (.slice p9 r.length (rc - 1)) r := by
 rcases h with ⟨h0, _⟩ | ⟨g', o', c', hv, h1, h2, h3⟩
 · cases h0
 · injection hv with e1 e2 e3
   injection e1 with e1
   injection e1 with e4 e5 _
   subst e3; subst e4; subst e5
   cases hr : r with
   | nil => exact .inl ⟨rfl, _, _, rfl⟩
   | cons y r' =>
     rw [← hr]
     have hpos : 0 < r.length := by rw [hr]; simp
     rw [hp hpos]
     simp only [List.length_cons] at h1
     refine .inr ⟨gr, of + 3, rc - 1, rfl, by omega, by omega, fun i x' hx => ?_⟩
     obtain ⟨u, hu, hs, hc⟩ := h3 (i + 1) x' (by simpa using hx)
     exact ⟨u, hu, hs, fun j z hz => by have := hc j z hz; rwa [show of + (i + 1) * 3 + j = of + 3 + i * 3 + j by omega] at this⟩
def fwt (xs : List Ux.Ty) : Nat := 1 + (xs.map fun x => 2 * x.sz).sum
/-- What is so at the loop's head. -/
def TxL (B : Nat) (w0 : World) (Tt : List UInt8) (k : Nat) (wr : World) : Prop :=
 ∃ (T : List UInt8) (L : List (List Ux.Ty)), WSt B w0 wr T L ∧ T ++ Ux.openText L.reverse = Tt ∧ (L.map fwt).sum ≤ k ∧ (∀ xs ∈ L, ∀ x ∈ xs, Low x)
theorem fwt_len (L : List (List Ux.Ty)) : L.length ≤ (L.map fwt).sum := by
 induction L with
 | nil => simp
 | cons x r ih => simp only [List.length_cons, List.map_cons, List.sum_cons]; unfold fwt at *; omega
theorem begin_low {x : Ux.Ty} (h : Low x) : ∀ xs ∈ (Ux.beginT x).2, ∀ y ∈ xs, Low y := by
 cases x with
 | v n => intro xs hx; simp [Ux.beginT] at hx
 | a nm ys =>
   intro xs hx y hy
   unfold Ux.beginT at hx
   simp only at hx
   split at hx
   · cases hx
   · rw [List.mem_singleton.1 hx] at hy
     exact low_in h hy
theorem twice_sum : ∀ ys : List Ux.Ty, (ys.map fun x => 2 * x.sz).sum = 2 * (ys.map Ux.Ty.sz).sum
 | [] => rfl
 | y :: r => by simp only [List.map_cons, List.sum_cons, twice_sum r]; omega
theorem begin_wt (x : Ux.Ty) : ((Ux.beginT x).2.map fwt).sum + 1 ≤ 2 * x.sz := by
 cases x with
 | v n => have := Ux.sz_pos (.v n); simp [Ux.beginT]; omega
 | a nm ys =>
   unfold Ux.beginT
   simp only
   split
   · have := Ux.sz_pos (.a nm ys); simp; omega
   · rw [Ux.sz_a]
     simp only [List.map_cons, List.map_nil, List.sum_cons, List.sum_nil]
     unfold fwt
     have := twice_sum ys
     omega
theorem begin_rev (x : Ux.Ty) : (Ux.beginT x).2.reverse = (Ux.beginT x).2 := by
 cases x with
 | v n => rfl
 | a nm ys => unfold Ux.beginT; simp only; split <;> rfl
/-- begin, of any type. -/
theorem tbegin_any (B : Nat) (w0 : World) (x : Ux.Ty) (v : Value) (w : World) (T : List UInt8) (L : List (List Ux.Ty)) (hw : WSt B w0 w T L) (ht : TyP w0 v x) (hl : Low x) (hT : T.length ≤ 1000000000000 ∧ (Ux.beginT x).1.length ≤ 900000000000) (hL : L.length ≤ 50000000000) (htab : Lib.TabIs Tryd.prog w0 "internal/strconv.uint64pow10" .u64 Lib.pow10Tab) :
 Calls Tryd.prog 41 #[.pointer (some ⟨B, 0, none⟩), v] w (TBegPost B w0 (T ++ (Ux.beginT x).1) (L ++ (Ux.beginT x).2)) := by
 have hb : Below w0.heap.size w0 w := by obtain ⟨_, _, _, _, _, _, _, _, h⟩ := hw; exact h
 cases x with
 | v m => rw [show (Ux.beginT (.v m)).2 = [] from rfl, List.append_nil]; exact begin_v B w0 m v w T L hw (tyP_below ht hb) (low_v hl) (by omega) htab
 | a nm xs =>
   refine begin_a B w0 nm xs v w T L hw (tyP_below ht hb) (fun k s av e => ?_) ⟨?_, ?_⟩ hL
   · obtain ⟨kt, av', _, e2, hx, _⟩ := tyP_a.1 ht
     rw [e2] at e
     injection e with e
     simp at e
     rw [← e.2.2]; exact hx
   all_goals
    have h1 : nm.length ≤ (Ux.beginT (.a nm xs)).1.length := by
     unfold Ux.beginT; simp only; split <;> simp
    omega
set_option maxHeartbeats 4000000 in
set_option maxRecDepth 100000 in
theorem text_any (t : Ux.Ty) (v : Value) (w : World) (ht : TyP w v t) (hl : Low t) (hlen : (Ux.textT t).length ≤ 800000000000) (hne : Ux.textT t ≠ []) (hsz : t.sz ≤ 10000000000) (htab : Lib.TabIs Tryd.prog w "internal/strconv.uint64pow10" .u64 Lib.pow10Tab) :
 Calls Tryd.prog 22 #[v] w fun e w' => e = .returned (.string ⟨(Ux.textT t).toArray⟩) ∧ Below w.heap.size w w' := by
 obtain ⟨ki, si, qi, ni, ci, rfl⟩ := tyP_sh ht
 obtain ⟨Tt, hTt⟩ : ∃ Tt, Tt = Ux.textT t := ⟨_, rfl⟩
 rw [← hTt] at hlen hne ⊢
 have HTT := Lib.hid hTt
 have HTY := Lib.hid ht; have HL := Lib.hid hl; have HTB := Lib.hid htab; have HNE := Lib.hid hne; have HSZ := Lib.hid hsz
 clear hTt ht hl htab hne hsz
 go_enter Tryd.func22, Tryd.ntmps22
 have ET := Lib.hid (ent_alloc (ent_new w #[.int .i64 ki, .string si, .slice qi ni ci] 30) (.cells #[.pointer none, .slice none 0 0, .slice none 0 0] 88))
 have EB := ent_new (w.alloc (.cells #[.int .i64 ki, .string si, .slice qi ni ci] 30)) #[.pointer none, .slice none 0 0, .slice none 0 0] 88
 rw [show (w.alloc (.cells #[.int .i64 ki, .string si, .slice qi ni ci] 30)).heap.size = w.heap.size + 1 by simp] at EB
 have HB := Lib.hid (show Below w.heap.size w ((w.alloc (.cells #[.int .i64 ki, .string si, .slice qi ni ci] 30)).alloc (.cells #[.pointer none, .slice none 0 0, .slice none 0 0] 88)) from ((Below.refl _ _).alloc (Nat.le_refl _) _).alloc (by simp) _)
 have HW : Hid (WSt (w.heap.size + 1) w ((w.alloc (.cells #[.int .i64 ki, .string si, .slice qi ni ci] 30)).alloc (.cells #[.pointer none, .slice none 0 0, .slice none 0 0] 88)) [] []) := Lib.hid
  ⟨_, .slice none 0 0, [], ⟨EB, rfl, by omega, .inl rfl, .slice none 0 0, rfl, own_none _ _ _ _ (by simp; omega)⟩, rfl, own_none _ _ _ _ (by simp; omega), rfl, (fun i xs h => by simp at h), HB.out⟩
 clear EB
 go_upto_region 2 with fail
 generalize (w.alloc (.cells #[.int .i64 ki, .string si, .slice qi ni ci] 30)).alloc (.cells #[.pointer none, .slice none 0 0, .slice none 0 0] 88) = w1 at ET HB HW ⊢
 obtain ⟨B, hB⟩ : ∃ B, B = w.heap.size + 1 := ⟨_, rfl⟩
 rw [← hB] at HW ⊢
 clear hB
 have t0 := ent_cell ET.out 0 _ rfl
 have t1 := ent_cell ET.out 1 _ rfl
 have t2 := ent_cell ET.out 2 _ rfl
 have hbt := Ux.begin_text t
 have hbl : (Ux.beginT t).1.length ≤ 800000000000 := by
  have h := congrArg List.length hbt
  rw [List.length_append, ← HTT.out] at h; omega
 have HBT := Lib.hid hbt
 have HBC := Lib.hid (tbegin_any B w t _ w1 [] [] HW.out HTY.out HL.out ⟨by simp, by omega⟩ (by simp) HTB.out)
 clear hbt hbl
 go_wp2_with fail
 refine HBC.out.mono ?_
 rintro e w2 ⟨rfl, hw2⟩
 have HL0 : Hid (TxL B w Tt (2 * t.sz) w2) := Lib.hid ⟨_, _, hw2, by
  simp only [List.nil_append]
  rw [begin_rev, HTT.out]; exact HBT.out, by have := begin_wt t; simp only [List.nil_append]; omega, by simp only [List.nil_append]; exact begin_low HL.out⟩
 clear hw2 HBC HW ET HB t0 t1 t2
 go_wp2_with fail
 go_loopg [4, 5] (2 * t.sz) (fun k _ _ wr => Hid (TxL B w Tt k wr ∧ k ≤ 20000000000))
 case atStart => exact Lib.hid ⟨HL0.out, by have := HSZ.out; omega⟩
 case round =>
  clear HL0
  obtain ⟨⟨T, L, hw, htx, hwt, hlow⟩, hgk⟩ := hrel.out
  clear hrel
  have hTl : T.length ≤ 800000000000 := by have h := congrArg List.length htx; rw [List.length_append] at h; omega
  have HTX := Lib.hid htx; have HWT := Lib.hid hwt; have HLOW := Lib.hid hlow; have HTL := Lib.hid hTl
  obtain ⟨cs, ov, vals, h1, h2, h3, h4, h5, h6⟩ := hw
  obtain ⟨op, oc, rfl⟩ := own_slice h3
  have H1 := Lib.hid h1; have H2 := Lib.hid h2; have H3 := Lib.hid h3; have H4 := Lib.hid h4; have H5 := Lib.hid h5; have H6 := Lib.hid h6
  clear h1 h2 h3 h4 h5 h6 htx hwt hlow hTl
  have o2 := (H1.out.cell 2).trans H2.out
  have of := H1.out.free 2
  have hsz3 := H6.out.size
  rcases List.eq_nil_or_concat L with hnil | ⟨L', xs, hL'⟩
  · subst hnil
    have l0 : ([] : List (List Ux.Ty)).length = 0 := rfl
    rw [l0] at o2
    have hT : T = Tt := by have := HTX.out; simpa [Ux.openText] using this
    go_wp2_with fail
    refine (Sw.string_any Sw.btyW H1.out (by rw [hT]; exact HNE.out)).mono ?_
    rintro e w3 ⟨rfl, hb3⟩
    rw [hT]
    have HB3 := Lib.hid (H6.out.trans hb3)
    clear hb3
    go_wp2_with fail
    go_ret
    exact ⟨rfl, HB3.out⟩
  · rw [List.concat_eq_append] at hL'
    subst hL'
    obtain ⟨n0, hn0⟩ : ∃ n0, n0 = L'.length := ⟨_, rfl⟩
    have hLl : (L' ++ [xs]).length = n0 + 1 := by rw [hn0]; simp
    rw [hLl] at o2 H2 H3 H4
    obtain ⟨v, hv, hfv⟩ := H5.out n0 xs (by rw [hn0]; simp)
    obtain ⟨q, cp, rfl⟩ := hfv.len
    obtain ⟨g, cur, rfl, hgl, hgs, hoc, hoc2, hgh, hcell⟩ := own_open H3.out (by omega)
    have x0 := ent_cell hgh n0 _ (hcell n0 _ hv)
    have xf := ent_free hgh
    have hoc : ((n0 + 1 : Nat) : Int) ≤ (oc : Int) := by omega
    have HN0 := Lib.hid hn0
    have HFV := Lib.hid hfv; have HV := Lib.hid hv
    have HGB : Hid (g ≠ B) := Lib.hid (fun e => by
     have h := H1.out.heap
     rw [← e, hgh] at h; injection h with h; injection h with _ h _; exact absurd h (by decide))
    clear hn0 hfv hv hLl hcell
    cases xs with
    | nil =>
      have l0 : ([] : List Ux.Ty).length = 0 := rfl
      rw [l0] at x0
      have HX : Hid (T ++ 41 :: Ux.openText L'.reverse = Tt) := Lib.hid (by
       have h := HTX.out
       rw [List.reverse_append] at h
       simpa [Ux.openText, Ux.textR_nil] using h)
      go_wp2_with fail
      refine (Sw.writeByte_any Sw.btyW H1.out 41 (by have := HTL.out; omega) hsz3).mono ?_
      rintro e w3 ⟨rfl, ⟨cs3, g1, g2⟩, g3, g4⟩
      have H13 := Lib.hid g1
      have H33 := Lib.hid (own_keepB H3.out (by decide) H1.out.heap (by decide) g4)
      have H23 : Hid (cs3[2]? = some (.slice (some ⟨g, 0, none⟩) (n0 + 1) oc)) := Lib.hid ((g2 2 (by decide)).trans H2.out)
      have H63 := Lib.hid (H6.out.trans g3)
      clear g1 g2 g3 g4 o2 of x0 xf hgh
      have o2 := (H13.out.cell 2).trans H23.out
      have of := H13.out.free 2
      have hn1 : (n0 : Int) ≤ (oc : Int) := by omega
      go_wp2_with fail
      clear o2 of
      go_roundg (gk - 1)
      case measure => have h := HWT.out; rw [List.map_append, List.sum_append] at h; unfold fwt at h; simp at h; omega
      case rel =>
       refine Lib.hid ⟨⟨T ++ [41], L', ?_, by have := HX.out; simpa using this, ?_, fun ys hy => HLOW.out ys (List.mem_append.2 (.inl hy))⟩, by omega⟩
       · have h3 := own_cut H33.out (show n0 ≤ n0 + 1 by omega)
         have hl4 := H4.out
         refine WSt.store (vals := vals.take (n0 * 1)) H13.out H13.out (by rw [← HN0.out]; exact h3) (by rw [List.length_take, hl4, ← HN0.out]; omega) (fun i ys hi => ?_) H63.out
         have hil : i < n0 := by have := (List.getElem?_eq_some_iff.1 hi).1; rw [HN0.out]; exact this
         obtain ⟨v', h1, h2⟩ := H5.out i ys (by rw [List.getElem?_append_left (by have := HN0.out; omega)]; exact hi)
         exact ⟨v', by rw [List.getElem?_take, if_pos (by omega)]; exact h1, h2⟩
       · have h := HWT.out; rw [List.map_append, List.sum_append] at h; unfold fwt at h ⊢; simp at h ⊢; omega
    | cons x r =>
      have HX : Hid (T ++ (32 :: (Ux.textT x ++ (Ux.textR r ++ Ux.openText L'.reverse))) = Tt) := Lib.hid (by
       have h := HTX.out
       rw [List.reverse_append] at h
       simpa [Ux.openText, Ux.textR_cons] using h)
      rcases HFV.out with ⟨h0, _⟩ | ⟨gr, of', rc, hq, hrc, hrc2, hrow⟩
      · cases h0
      injection hq with hq1 _ hq2
      subst hq1; subst hq2
      obtain ⟨u, hu, _, hcu⟩ := hrow 0 x rfl
      obtain ⟨xi, xs0, xq, xn, xc, rfl⟩ := tyP_sh hu
      rw [List.length_cons] at x0 hrc HFV
      have HU := Lib.hid hu
      have k0 := hcu 0 (.int .i64 xi) rfl
      have k1 := hcu 1 (.string xs0) rfl
      have k2 := hcu 2 (.slice xq xn xc) rfl
      rw [Nat.zero_mul, Nat.add_zero] at k0 k1 k2
      have HXC := Lib.hid (fun (w' : World) (h : Below w.heap.size w w') => (⟨cell_up h k0, cell_up h k1, cell_up h k2⟩ : w'.cell? ⟨gr, of', none⟩ = some (.int .i64 xi) ∧ w'.cell? ⟨gr, of' + 1, none⟩ = some (.string xs0) ∧ w'.cell? ⟨gr, of' + 2, none⟩ = some (.slice xq xn xc)))
      clear k0 k1 k2
      obtain ⟨p9, hp9, hst⟩ := slice_tail gr of' r.length cp (by omega) hrc2
      have HST := Lib.hid hst
      have HFT := Lib.hid (frV_tail HFV.out hp9)
      clear hu hcu hrow hst hp9
      have hrl : ¬ (((r.length + 1 : Nat) : Int) = 0) := by omega
      have hrl2 : (((r.length + 1 : Nat) : Int) == 0) = false := by simp; omega
      go_upto_region 9 with fail
      have xsz : ∀ o, wr.drew.frozen? ⟨g, o, none⟩ = false := xf
      have HFZ := Lib.hid xf
      replace o2 : wr.drew.cell? ⟨B, 2, none⟩ = some (.slice (some ⟨g, 0, none⟩) (n0 + 1) oc) := o2
      have HWB9 := Lib.hid (show Sw.WB 88 3 w.heap.size B wr.drew cs T from WB_below H1.out ((Below.refl _ _).drew))
      have H39 := Lib.hid (show wr.drew.ownsRow _ _ _ _ _ _ from H3.out)
      have H69 := Lib.hid (show Below w.heap.size w wr.drew from H6.out.drew)
      have HX0 := Lib.hid (show wr.drew.cell? ⟨g, n0, none⟩ = some (.slice (some ⟨gr, of', none⟩) (r.length + 1) cp) from x0)
      clear x0 xf of hgh
      refine wp_region_held_drew (S := fun (u : World) => u.cell? ⟨B, 2, none⟩ = some (.slice (some ⟨g, 0, none⟩) (n0 + 1) oc)) (by kernel_rfl) (show wr.drew.cell? ⟨B, 2, none⟩ = _ from o2) (fun hHeld => ?_)
      generalize wr.drew = wd at o2 HWB9 H39 H69 xsz HX0 hHeld ⊢
      have HFZ := Lib.hid xsz
      clear xsz
      refine wpAnyH_take (i := 0) (v := .pointer (some ⟨B, 0, none⟩)) rfl (by kernel_rfl) (by kernel_rfl) (by kernel_rfl) (fun _ _ _ h => h) (Or.inl ⟨by rfl, fun w' hSw => by go_simp⟩) hHeld ?_
      refine wpAnyH_take (i := 1) (v := .pointer (some ⟨B, 0, none⟩)) rfl (by kernel_rfl) (by kernel_rfl) (by kernel_rfl) (fun _ _ _ h => h) (Or.inl ⟨by rfl, fun w' hSw => by go_simp⟩) hHeld ?_
      refine wpAnyH_take (i := 2) (v := .pointer (some ⟨B, 2, none⟩)) rfl (by kernel_rfl) (by kernel_rfl) (by kernel_rfl) (fun _ _ _ h => h) (Or.inl ⟨by rfl, fun w' hSw => by go_simp⟩) hHeld ?_
      refine wpAnyH_take (i := 3) (v := .slice (some ⟨g, 0, none⟩) (n0 + 1) oc) rfl (by kernel_rfl) (by kernel_rfl) (by kernel_rfl) (fun _ _ _ h => h) (Or.inl ⟨by rfl, fun w' hSw => by have h : w'.cell? ⟨B, 2, none⟩ = _ := hSw; go_simp⟩) hHeld ?_
      refine wpAnyH_take (i := 4) (v := .int .i64 (n0 : Int)) rfl (by kernel_rfl) (by kernel_rfl) (by kernel_rfl) (fun _ _ _ h => h) (Or.inl ⟨by rfl, fun w' hSw => by go_simp⟩) hHeld ?_
      refine wpAnyH_take (i := 5) (v := .slice (some ⟨gr, of', none⟩) (r.length + 1) cp) rfl (by kernel_rfl) (by kernel_rfl) (by kernel_rfl) (fun _ _ _ h => h) (Or.inl ⟨by rfl, fun w' hSw => by go_simp⟩) hHeld ?_
      refine wpAnyH_take (i := 6) (v := .slice p9 r.length (cp - 1)) rfl (by kernel_rfl) (by kernel_rfl) (by kernel_rfl) (fun _ _ _ h => h) (Or.inl ⟨by rfl, fun w' hSw => by have h := HST.out w'; go_simp⟩) hHeld ?_
      refine wpAnyH_take (i := 7) (v := .pointer (some ⟨g, n0, none⟩)) rfl (by kernel_rfl) (by kernel_rfl) (by kernel_rfl) (fun _ _ _ h => h) (Or.inl ⟨by rfl, fun w' hSw => by have h2 := hoc; go_simp; intro h3; exfalso; omega⟩) hHeld ?_
      try simp only [Act.put, List.getElem_toArray, List.getElem_cons_succ, List.getElem_cons_zero, List.setIfInBounds_toArray, List.set_cons_zero, List.set_cons_succ]
      refine wpAnyH_ready (rs := [8]) (by kernel_rfl) (by simp) ?_
      refine AllReadyH.cons rfl (fun K hK => ?_) AllReadyH.nil
      go_simp
      have h9 := HFZ.out n0
      have h8 := HX0.out
      go_simp
      refine hK.out _ _ (show (wd.setCell ⟨g, n0, none⟩ (.slice p9 r.length (cp - 1))).cell? ⟨B, 2, none⟩ = _ by rw [World.cell?_of_block (w := wd) (Below.heap_setCell wd ⟨g, n0, none⟩ _ B (fun e => HGB.out e.symm))]; exact hHeld) (fun hHeld => ?_)
      clear hK K
      refine wpAnyH_done (by kernel_rfl) ?_ _
      have HW9 : Hid (WSt B w (wd.setCell ⟨g, n0, none⟩ (.slice p9 r.length (cp - 1))) T (L' ++ [r])) := Lib.hid (by
       have hlt := H4.out
       have hc := Chg.set (R := (· = g)) (w := wd) (p := ⟨g, n0, none⟩) rfl (.slice p9 r.length (cp - 1))
       refine ⟨cs, _, vals.set n0 (.slice p9 r.length (cp - 1)), WB_chg HWB9.out hc (fun e => HGB.out e.symm) (fun g' cur hg' e => ?_), H2.out, by rw [show (L' ++ [r]).length = n0 + 1 by rw [HN0.out]; simp]; exact own_setAt H39.out n0 _ (by omega), by rw [List.length_set, hlt, HN0.out]; simp, fun i ys hi => ?_, H69.out.trans ((Below.refl _ _).setCell (p := ⟨g, n0, none⟩) hgl _)⟩
       · subst e
         exact own_ne8 H39.out (by decide) _ _ hg' rfl
       · by_cases hin : i = n0
         · subst hin
           rw [List.getElem?_append_right (by rw [← HN0.out]; exact Nat.le_refl _), ← HN0.out, Nat.sub_self] at hi
           simp at hi
           subst hi
           exact ⟨_, by rw [List.getElem?_set_self (by omega)], HFT.out⟩
         · have hil : i < L'.length := by have := (List.getElem?_eq_some_iff.1 hi).1; simp at this; rw [← HN0.out] at this ⊢; omega
           rw [List.getElem?_append_left hil] at hi
           obtain ⟨v', h1, h2⟩ := H5.out i ys (by rw [List.getElem?_append_left hil]; exact hi)
           exact ⟨v', by rw [List.getElem?_set_ne (fun e => hin e.symm)]; exact h1, h2⟩)
      clear HX0 HFZ HWB9 H39 H69 o2 hHeld
      generalize wd.setCell ⟨g, n0, none⟩ (.slice p9 r.length (cp - 1)) = wt at HW9 ⊢
      obtain ⟨cs9, ov9, vals9, h1, h2, h3, h4, h5, h6⟩ := HW9.out
      have HWB9 := Lib.hid h1
      have HS9 := Lib.hid h6.size
      have HWR := Lib.hid (fun (w' : World) (cs' : Array Value) (g1 : Sw.WB 88 3 w.heap.size B w' cs' (T ++ [32])) (g2 : ∀ j, 2 ≤ j → cs'[j]? = cs9[j]?) (g3 : Below w.heap.size wt w') (g4 : Sw.KeepB B wt w') => HW9.out.wrote h2 h3 h4 h5 h6 g1 g2 g3 g4)
      clear h1 h2 h3 h4 h5 h6
      go_wp2_with fail
      refine (Sw.writeByte_any Sw.btyW HWB9.out 32 (by have := HTL.out; omega) HS9.out).mono ?_
      rintro e w3 ⟨rfl, ⟨cs3, g1, g2⟩, g3, g4⟩
      have HW3 := Lib.hid (HWR.out w3 cs3 g1 g2 g3 g4)
      clear g1 g2 g3 g4 HWR HWB9 HS9
      have hb3 : Below w.heap.size w w3 := by obtain ⟨_, _, _, _, _, _, _, _, h⟩ := HW3.out; exact h
      obtain ⟨x0, x1, x2⟩ := HXC.out w3 hb3
      have hlx : Low x := HLOW.out (x :: r) (List.mem_append.2 (.inr (by simp))) x (by simp)
      have hbt := Ux.begin_text x
      have hlen2 := congrArg List.length HX.out
      have hbl : (Ux.beginT x).1.length ≤ (Ux.textT x).length := by rw [← hbt, List.length_append]; omega
      simp only [List.length_append, List.length_cons] at hlen2
      have HBC := Lib.hid (tbegin_any B w x _ w3 (T ++ [32]) (L' ++ [r]) HW3.out HU.out hlx ⟨by simp; omega, by omega⟩ (by have h := HWT.out; have h2 := fwt_len (L' ++ [x :: r]); simp at h2 ⊢; simp at h; omega) HTB.out)
      have HBT2 := Lib.hid hbt
      clear hlen2 hbl hbt hlx hb3
      go_wp2_with fail
      refine HBC.out.mono ?_
      rintro e w4 ⟨rfl, hw4⟩
      have HW4 := Lib.hid hw4
      clear hw4 x0 x1 x2 HBC
      go_wp2_with fail
      go_roundg (gk - 1)
      case measure => have h := HWT.out; rw [List.map_append, List.sum_append] at h; unfold fwt at h; simp at h; omega
      case rel =>
       refine Lib.hid ⟨⟨_, _, HW4.out, ?_, ?_, ?_⟩, by omega⟩
       · have h := HX.out
         rw [← HBT2.out] at h
         rw [List.reverse_append, begin_rev, List.reverse_append]
         simpa [Ux.openText] using h
       · have h := HWT.out
         have h2 := begin_wt x
         rw [List.map_append, List.sum_append] at h
         rw [List.map_append, List.sum_append, List.map_append, List.sum_append]
         unfold fwt at h h2 ⊢
         simp at h h2 ⊢
         omega
       · intro ys hy
         rcases List.mem_append.1 hy with hy | hy
         · rcases List.mem_append.1 hy with hy | hy
           · exact HLOW.out ys (List.mem_append.2 (.inl hy))
           · rw [List.mem_singleton.1 hy]
             exact fun y hyr => HLOW.out (x :: r) (List.mem_append.2 (.inr (by simp))) y (List.mem_cons_of_mem _ hyr)
         · exact begin_low (HLOW.out (x :: r) (List.mem_append.2 (.inr (by simp))) x (by simp)) ys hy
end Go.Proofs.YtcblppojnailpaaDoor
namespace Go.Proofs.YtcblppojnailpaaDoor
namespace Ux
set_option linter.unusedVariables false
set_option linter.unusedSimpArgs false
theorem firsts_app : ∀ (a b l : List Nat), firsts l (a ++ b) = firsts (firsts l a) b
 | [], b, l => rfl
 | n :: r, b, l => by rw [List.cons_append, firsts, firsts_app r b, firsts]
theorem firsts_in : ∀ (a l : List Nat), (∀ n ∈ a, n ∈ l) → firsts l a = l
 | [], l, _ => rfl
 | n :: r, l, h => by
   rw [firsts, if_pos (by simpa using h n (by simp))]
   exact firsts_in r l fun m hm => h m (by simp [hm])
theorem firsts_skip (acc a b : List Nat) (h : ∀ n ∈ a, n ∈ acc) : firsts [] (acc ++ (a ++ b)) = firsts [] (acc ++ b) := by
 rw [firsts_app, firsts_app, firsts_app, firsts_in a (firsts [] acc) (fun n hn => (firsts_mem n acc []).2 (.inr (h n hn)))]
/-- A list that is open: what it is, and what of it is still to be told. -/
abbrev Fr := List Ty × List Ty
def flat (fs : List Fr) : List Nat := fs.flatMap fun f => Ty.vss f.2
def Ch (acc : List Nat) : List Nat → List Fr → Prop
 | _, [] => True
 | above, f :: r => (∀ x ∈ f.2, x ∈ f.1) ∧ (∀ n ∈ Ty.vss f.1, n ∈ acc ∨ n ∈ above ∨ n ∈ Ty.vss f.2) ∧ (∀ g ∈ r, Ty.szs f.1 < Ty.szs g.1) ∧ Ch acc (above ++ Ty.vss f.2) r
/-- While variables are told: acc was, fs is open, seen came. -/
structure EV (F : List Nat) (seen : List (List Ty)) (fs : List Fr) (acc : List Nat) : Prop where
 all : firsts [] (acc ++ flat fs) = F
 chain : Ch acc [] fs
 came : ∀ xs ∈ seen, (∀ n ∈ Ty.vss xs, n ∈ acc) ∨ ∃ f ∈ fs, f.1 = xs
theorem vss_cons (x : Ty) (r : List Ty) : Ty.vss (x :: r) = x.vs ++ Ty.vss r := by rw [Ty.vss]
theorem vss_a (nm : List UInt8) (xs : List Ty) : (Ty.a nm xs).vs = Ty.vss xs := by rw [Ty.vs]
theorem Ch.more {acc acc' : List Nat} (ha : ∀ n ∈ acc, n ∈ acc') : ∀ {fs : List Fr} {above above' : List Nat}, (∀ n ∈ above, n ∈ acc' ∨ n ∈ above') → Ch acc above fs → Ch acc' above' fs
 | [], _, _, _, _ => trivial
 | f :: r, above, above', hb, h => ⟨h.1, fun n hn => by
    rcases h.2.1 n hn with h1 | h1 | h1
    · exact .inl (ha n h1)
    · rcases hb n h1 with h2 | h2
      · exact .inl h2
      · exact .inr (.inl h2)
    · exact .inr (.inr h1), h.2.2.1, Ch.more ha (fun n hn => by
    rcases List.mem_append.1 hn with h1 | h1
    · rcases hb n h1 with h2 | h2
      · exact .inl h2
      · exact .inr (List.mem_append.2 (.inl h2))
    · exact .inr (List.mem_append.2 (.inr h1))) h.2.2.2⟩
theorem szs_mem {x : Ty} {l : List Ty} (h : x ∈ l) : x.sz ≤ Ty.szs l := by rw [szs_sum]; exact sum_ge Ty.sz h
theorem szs_lt {nm : List UInt8} {xs l : List Ty} (h : Ty.a nm xs ∈ l) : Ty.szs xs < Ty.szs l := by
 have h1 := szs_mem h
 have h2 : (Ty.a nm xs).sz = 1 + Ty.szs xs := by rw [Ty.sz]
 omega
theorem EV.start (t : Ty) : EV (varsT t) [] [([t], [t])] [] where
 all := by simp [flat, varsT, Ty.vss]
 chain := ⟨fun x h => h, fun n h => .inr (.inr h), fun g hg => (by cases hg), trivial⟩
 came := fun xs h => (by cases h)
theorem EV.pop {F : List Nat} {seen : List (List Ty)} {o : List Ty} {fs : List Fr} {acc : List Nat} (h : EV F seen ((o, []) :: fs) acc) : EV F seen fs acc where
 all := by have := h.all; simpa [flat, Ty.vss] using this
 chain := Ch.more (fun n h => h) (fun n hn => by simp [Ty.vss] at hn) h.chain.2.2.2
 came := fun xs hx => by
  rcases h.came xs hx with h1 | ⟨f, hf, rfl⟩
  · exact .inl h1
  · rcases List.mem_cons.1 hf with rfl | hf
    · exact .inl fun n hn => by
       rcases h.chain.2.1 n hn with h1 | h1 | h1
       · exact h1
       · cases h1
       · simp [Ty.vss] at h1
    · exact .inr ⟨f, hf, rfl⟩
theorem EV.var {F : List Nat} {seen : List (List Ty)} {o r : List Ty} {n : Nat} {fs : List Fr} {acc : List Nat} (h : EV F seen ((o, .v n :: r) :: fs) acc) : EV F seen ((o, r) :: fs) (acc ++ [n]) where
 all := by have := h.all; simpa [flat, vss_cons, vs_v] using this
 chain := by
  obtain ⟨h1, h2, h3, h4⟩ := h.chain
  have e : Ty.vss (Ty.v n :: r) = n :: Ty.vss r := by rw [vss_cons, vs_v]; rfl
  refine ⟨fun x hx => h1 x (List.mem_cons_of_mem _ hx), fun m hm => ?_, h3, Ch.more (fun m hm => List.mem_append.2 (.inl hm)) (fun m hm => ?_) h4⟩
  · rcases h2 m hm with k | k | k
    · exact .inl (List.mem_append.2 (.inl k))
    · cases k
    · simp only [e] at k
      rcases List.mem_cons.1 k with rfl | k
      · exact .inl (by simp)
      · exact .inr (.inr k)
  · simp only [e, List.nil_append] at hm
    rcases List.mem_cons.1 hm with rfl | k
    · exact .inl (by simp)
    · exact .inr (by simpa using k)
 came := fun xs hx => by
  rcases h.came xs hx with h1 | ⟨f, hf, rfl⟩
  · exact .inl fun m hm => List.mem_append.2 (.inl (h1 m hm))
  · rcases List.mem_cons.1 hf with rfl | hf
    · exact .inr ⟨(o, r), by simp, rfl⟩
    · exact .inr ⟨f, by simp [hf], rfl⟩
/-- What is in a list that came was told. -/
theorem EV.told {F : List Nat} {seen : List (List Ty)} {o r xs : List Ty} {nm : List UInt8} {fs : List Fr} {acc : List Nat} (h : EV F seen ((o, .a nm xs :: r) :: fs) acc) (hs : xs ∈ seen ∨ xs = []) : ∀ n ∈ Ty.vss xs, n ∈ acc := by
 rcases hs with hs | rfl
 · have hlt : Ty.szs xs < Ty.szs o := szs_lt (h.chain.1 (.a nm xs) (by simp))
   rcases h.came xs hs with h1 | ⟨f, hf, he⟩
   · exact h1
   · rcases List.mem_cons.1 hf with e | hf
     · rw [e] at he
       have he' : o = xs := he
       rw [he'] at hlt
       exact absurd hlt (Nat.lt_irrefl _)
     · have := h.chain.2.2.1 f hf
       rw [he] at this
       simp only at this
       omega
 · intro n hn; simp [Ty.vss] at hn
theorem EV.skip {F : List Nat} {seen : List (List Ty)} {o r xs : List Ty} {nm : List UInt8} {fs : List Fr} {acc : List Nat} (h : EV F seen ((o, .a nm xs :: r) :: fs) acc) (hs : xs ∈ seen ∨ xs = []) : EV F seen ((o, r) :: fs) acc := by
 have ht := h.told hs
 have e : Ty.vss (Ty.a nm xs :: r) = Ty.vss xs ++ Ty.vss r := by rw [vss_cons, vss_a]
 refine ⟨?_, ?_, fun ys hy => ?_⟩
 · have := h.all
   simp only [flat, List.flatMap_cons, e, List.append_assoc] at this ⊢
   rw [← this]
   exact (firsts_skip acc (Ty.vss xs) _ ht).symm
 · obtain ⟨h1, h2, h3, h4⟩ := h.chain
   refine ⟨fun x hx => h1 x (List.mem_cons_of_mem _ hx), fun m hm => ?_, h3, Ch.more (fun m hm => hm) (fun m hm => ?_) h4⟩
   · rcases h2 m hm with k | k | k
     · exact .inl k
     · cases k
     · simp only [e] at k
       rcases List.mem_append.1 k with k | k
       · exact .inl (ht m k)
       · exact .inr (.inr k)
   · simp only [e, List.nil_append] at hm
     rcases List.mem_append.1 hm with k | k
     · exact .inl (ht m k)
     · exact .inr (by simpa using k)
 · rcases h.came ys hy with h1 | ⟨f, hf, rfl⟩
   · exact .inl h1
   · rcases List.mem_cons.1 hf with rfl | hf
     · exact .inr ⟨(o, r), by simp, rfl⟩
     · exact .inr ⟨f, by simp [hf], rfl⟩
theorem EV.push {F : List Nat} {seen : List (List Ty)} {o r xs : List Ty} {nm : List UInt8} {fs : List Fr} {acc : List Nat} (h : EV F seen ((o, .a nm xs :: r) :: fs) acc) : EV F (xs :: seen) ((xs, xs) :: (o, r) :: fs) acc := by
 have e : Ty.vss (Ty.a nm xs :: r) = Ty.vss xs ++ Ty.vss r := by rw [vss_cons, vss_a]
 have hlt : Ty.szs xs < Ty.szs o := szs_lt (h.chain.1 (.a nm xs) (by simp))
 obtain ⟨h1, h2, h3, h4⟩ := h.chain
 refine ⟨?_, ⟨fun x hx => hx, fun n hn => .inr (.inr hn), fun g hg => ?_, fun x hx => h1 x (List.mem_cons_of_mem _ hx), fun m hm => ?_, h3, Ch.more (fun m hm => hm) (fun m hm => ?_) h4⟩, fun ys hy => ?_⟩
 · have := h.all
   simp only [flat, List.flatMap_cons, e, List.append_assoc] at this ⊢
   exact this
 · rcases List.mem_cons.1 hg with rfl | hg
   · exact hlt
   · have k : Ty.szs o < Ty.szs g.1 := h3 g hg
     show Ty.szs xs < Ty.szs g.1
     omega
 · rcases h2 m hm with k | k | k
   · exact .inl k
   · cases k
   · simp only [e] at k
     rcases List.mem_append.1 k with k | k
     · exact .inr (.inl (by simpa using k))
     · exact .inr (.inr k)
 · simp only [e, List.nil_append] at hm
   exact .inr (by simpa using hm)
 · rcases List.mem_cons.1 hy with rfl | hy
   · exact .inr ⟨(ys, ys), by simp, rfl⟩
   · rcases h.came ys hy with k | ⟨f, hf, rfl⟩
     · exact .inl k
     · rcases List.mem_cons.1 hf with rfl | hf
       · exact .inr ⟨(o, r), by simp, rfl⟩
       · exact .inr ⟨f, by simp [hf], rfl⟩
theorem EV.done {F : List Nat} {seen : List (List Ty)} {acc : List Nat} (h : EV F seen [] acc) : firsts [] acc = F := by have := h.all; simpa [flat] using this
end Ux
end Go.Proofs.YtcblppojnailpaaDoor
namespace Go.Proofs.YtcblppojnailpaaDoor
open Go Go.RowKit
set_option linter.unusedVariables false
set_option linter.unusedSimpArgs false
/-- 'append(s, row...)' in a region that draws its order. -/
theorem run_append_rows {α : Type} {rep : Value → α → Prop} {w : World} (t ty : TypeId)
 (base : Nat) (e : TypeId) (i : TypeInfo) (z : Value) (size bytes : Nat) (ht : Tryd.prog.underlying t = some (.slice e)) (hi : Tryd.prog.info? e = some i) (hz : i.zero = some z)
 (hsize : i.size = size) (hby : i.bytes = bytes) (hzs : z.cells.size = size) (hsz : 0 < size)
 (v : Value) (n : Nat) (vs : List Value) (hown : w.ownsRow base e size v n (cellsOf vs))
 (vx : Value) (ys : List α) (hrow : RowAt size rep w vx ys) (hone : ∀ u x, rep u x → ∀ c ∈ u.cells.toList, c.oneCell' = true)
 (h63 : n + ys.length ≤ maxLen) (hbytes : (n + ys.length) * bytes ≤ 140737488355328) (hbase : base ≤ w.heap.size) :
 ∃ v' w' us, (Builtin.append_ #[t, t] ty #[v, vx]).run Tryd.prog w = .ok v' w' ∧ Reps rep us ys ∧ (∀ u ∈ us, u.cells.size = size) ∧ w'.ownsRow base e size v' (n + ys.length) (cellsOf (vs ++ us)) ∧ w.grownBy w' v.ownBlock ∧ (v'.ownBlock = v.ownBlock ∨ ∀ g, v'.ownBlock = some g → w.heap.size ≤ g) := by
 by_cases hys : ys = []
 · subst hys
   obtain ⟨q, c, rfl⟩ := hrow.len
   have hr := run_append_zero w base t ty e i size ht hi v n _ hown q c
   exact ⟨v, w, [], hr, trivial, (fun u hu => by cases hu), by rw [List.append_nil]; exact hown, ⟨rfl, rfl, rfl, Nat.le_refl _, fun _ _ _ => rfl⟩, .inl rfl⟩
 · rcases hrow with ⟨h0, _⟩ | ⟨g, of, c, rfl, _, _, h4⟩
   · exact absurd h0 hys
   · obtain ⟨us, hu1, hu2, hu3⟩ := row_vals ys of h4
     have hpos : 0 < ys.length := List.length_pos_iff.2 hys
     obtain ⟨v', w', hr, h2, h3, h5⟩ := run_append_loc w base t ty e i z size bytes ht hi hz hsize hby hzs hsz v n _ hown ⟨g, of, none⟩ ys.length c hpos (cellsOf us)
      (by rw [cellsOf_len size hu2, hu1.len]) (fun j u hj => by
        have e : (⟨g, of, none⟩ : Addr).add j = ⟨g, of + j, none⟩ := by unfold Addr.add; split <;> simp_all
        rw [e]; exact hu3 j u hj) (fun u hu => by
        obtain ⟨y, hy, hz⟩ := List.mem_flatMap.1 hu
        exact Reps.all (q := fun u => ∀ c ∈ u.cells.toList, c.oneCell' = true) hone hu1 y hy u hz) h63 hbytes hbase
     exact ⟨v', w', us, hr, hu1, hu2, by rw [cellsOf_append]; exact h2, h3, h5⟩
/-- A number's value. -/
def NumV (u : Value) (x : Nat) : Prop := u = .int .i64 (x : Int)
def nums' (l : List Nat) : List Value := l.map fun (x : Nat) => Value.int .i64 (x : Int)
def NumsR (w : World) (v : Value) (l : List Nat) : Prop := RowAt 1 NumV w v l
theorem reps_nums : ∀ {us : List Value} {l : List Nat}, Reps NumV us l → us = nums' l
 | [], [], _ => rfl
 | u :: us, x :: l, h => by rw [nums', List.map_cons, ← nums', ← reps_nums h.2, h.1]
 | [], _ :: _, h => h.elim
 | _ :: _, [], h => h.elim
/-- What a list of numbers is in memory. -/
theorem step_append_rows {α : Type} {rep : Value → α → Prop} {w : World} {ops : Array Oper} {o : Oper} {a : Act} {K : Act → World → Prop} {Q : Exit → Act → World → Prop} {X : Prop} (hgd : o.guard = none) (s x : Operand) (t : TypeId)
 (ho : o.op = .call { callee := .builtin .append, args := #[s, x], argTypes := #[t, t] })
 (base : Nat) (e : TypeId) (i : TypeInfo) (z : Value) (size bytes : Nat) (ht : Tryd.prog.underlying t = some (.slice e)) (hi : Tryd.prog.info? e = some i) (hz : i.zero = some z)
 (hsize : i.size = size) (hby : i.bytes = bytes) (hzs : z.cells.size = size) (hsz : 0 < size)
 (v : Value) (n : Nat) (vs : List Value) (hs : a.eval s = v) (hown : w.ownsRow base e size v n (cellsOf vs))
 (vx : Value) (hx : a.eval x = vx) (ys : List α) (hrow : RowAt size rep w vx ys) (hone : ∀ u x, rep u x → ∀ c ∈ u.cells.toList, c.oneCell' = true)
 (h63 : n + ys.length ≤ maxLen) (hbytes : (n + ys.length) * bytes ≤ 140737488355328) (hbase : base ≤ w.heap.size)
 (h : ∀ v' w' us, Reps rep us ys → (∀ u ∈ us, u.cells.size = size) → w'.ownsRow base e size v' (n + ys.length) (cellsOf (vs ++ us)) → w.grownBy w' v.ownBlock → (v'.ownBlock = v.ownBlock ∨ ∀ g, v'.ownBlock = some g → w.heap.size ≤ g) → K (a.put o.dst v') w') :
 if Region.wanted o (yielded ops a.tmps) = true then Oper.wp Tryd.prog o a w K Q else X := by
 have hw : Region.wanted o (yielded ops a.tmps) = true := by simp [Region.wanted, hgd]
 rw [if_pos hw]
 obtain ⟨v', w', us, hr, h1, h2, h3, h4, h5⟩ := run_append_rows (w := w) t o.type base e i z size bytes ht hi hz hsize hby hzs hsz v n vs hown vx ys hrow hone h63 hbytes hbase
 unfold Oper.wp execOp
 simp only [ho, resolve, invoke, builtin, Sem.run_bind, Sem.run_pure, Result.andThen_ok, List.map_toArray, List.map_cons, List.map_nil, hs, hx, hr]
 exact h v' w' us h1 h2 h3 h4 h5
theorem numV_one (u : Value) (x : Nat) (h : NumV u x) : ∀ c ∈ u.cells.toList, c.oneCell' = true := by
 intro c hc
 rw [show u = .int .i64 (x : Int) from h] at hc
 simp only [Value.cells, List.mem_singleton] at hc
 rw [hc]; rfl
theorem cells_nums (l : List Nat) : cellsOf (nums' l) = nums' l := by
 induction l with
 | nil => rfl
 | cons x r ih => 
   have e : cellsOf (nums' (x :: r)) = [Value.int .i64 (x : Int)] ++ cellsOf (nums' r) := by simp [cellsOf, nums', Value.cells]
   rw [e, ih]; rfl
theorem nums_snoc (l : List Nat) (m : Nat) : nums' l ++ [.int .i64 (m : Int)] = nums' (l ++ [m]) := by simp [nums']
theorem nums_len (l : List Nat) : (nums' l).length = l.length := by simp [nums']
theorem one_cell {w : World} {b : Nat} {v : Value} {T : TypeId} (h : w.heap[b]? = some (.cells #[v] T (0, 0))) : ∀ j u, [v][j]? = some u → w.cell? ((⟨b, 0, none⟩ : Addr).add j) = some u := by
 intro j u hj
 have e : (⟨b, 0, none⟩ : Addr).add j = ⟨b, j, none⟩ := by unfold Addr.add; split <;> simp_all
 rw [e]
 exact ent_cell h j u (by simpa using hj)
theorem nums_row {w u : World} {low : Nat} {v : Value} {n : Nat} {l : List Nat} (h : w.ownsRow low 3 1 v n (nums' l)) (hn : n = l.length) (hu : ∀ b, low ≤ b → b < w.heap.size → u.heap[b]? = w.heap[b]?) : NumsR u v l := by
 subst hn
 rcases h.2 with ⟨rfl, hn⟩ | ⟨g, cap, cur, rfl, hb, hg, hc1, hc2, hc3, hc4⟩
 · exact .inl ⟨List.eq_nil_of_length_eq_zero hn, none, 0, rfl⟩
 · refine .inr ⟨g, 0, cap, rfl, hc1, by unfold maxLen at hc2; omega, fun i x hx => ⟨_, rfl, rfl, fun j z hz => ?_⟩⟩
   have hj : j = 0 := by
    have := (Array.getElem?_eq_some_iff.1 hz).1
    simp [Value.cells] at this; exact this
   subst hj
   have hz' : z = .int .i64 (x : Int) := by simpa [Value.cells] using hz.symm
   subst hz'
   have := World.ownsRow.cells h rfl i (.int .i64 (x : Int)) (by unfold nums'; rw [List.getElem?_map, hx]; rfl)
   have e : (⟨g, 0, none⟩ : Addr).add i = ⟨g, 0 + i * 1 + 0, none⟩ := by unfold Addr.add; split <;> simp_all
   rw [e] at this
   have hlt : g < w.heap.size := (Array.getElem?_eq_some_iff.1 hg).1
   rw [World.cell?_of_block (w := w) (hu g hb hlt)]; exact this
theorem Hang.now' {α : Type} {rep : World → Value → α → Prop} {base lo : Nat} {w w' : World} {v : Value} {x : α} (h : Hang rep base lo w.heap.size w v x) (h0 : base ≤ w.heap.size) (hb : Below w.heap.size w w') : rep w' v x := h w' fun b hb' => hb.block b (by omega)
theorem firsts_one (l : List Nat) (m : Nat) : Ux.firsts l [m] = if l.contains m then l else l ++ [m] := rfl
theorem firsts_len : ∀ r l : List Nat, (Ux.firsts l r).length ≤ l.length + r.length
 | [], l => by simp [Ux.firsts]
 | n :: r, l => by
   have h := firsts_len r (if l.contains n then l else l ++ [n])
   show (Ux.firsts (if l.contains n then l else l ++ [n]) r).length ≤ _
   split at h <;> simp_all <;> omega
theorem vs_len (t : Ux.Ty) : t.vs.length ≤ t.sz := by
 induction t using Ux.Ty.ind with
 | hv n => rw [Ux.vs_v]; have := Ux.sz_pos (.v n); simpa using this
 | ha nm xs ih =>
   rw [Ux.vs_a, Ux.sz_a, List.length_flatMap]
   have := Ux.sum_le (fun x => x.vs.length) Ux.Ty.sz xs ih
   omega
theorem vss_len (xs : List Ux.Ty) : (xs.flatMap Ux.Ty.vs).length ≤ (xs.map Ux.Ty.sz).sum := by
 rw [List.length_flatMap]
 exact Ux.sum_le (fun x => x.vs.length) Ux.Ty.sz xs fun x _ => vs_len x
def RVarsC (t : Ux.Ty) : Prop := ∀ (v lv : Value) (l : List Nat) (base lo : Nat) (w : World), base ≤ w.heap.size → lo ≤ w.heap.size → TyP w v t → Hang NumsR base lo w.heap.size w lv l → l.length + t.sz ≤ 10000000000 →
 Calls Tryd.prog 20 #[v, lv] w (fun e w' => ∃ r, e = .returned r ∧ Below w.heap.size w w' ∧ Hang NumsR base lo w'.heap.size w' r (Ux.firsts l t.vs))
set_option maxHeartbeats 4000000 in
set_option maxRecDepth 100000 in
theorem refVars_any (t : Ux.Ty) : RVarsC t := by
 induction t using Ux.Ty.ind with
 | hv m =>
   intro v lv l base lo w hbase hlo ht hl hsz
   obtain ⟨s, q, jj, c, rfl⟩ := tyP_v.1 ht
   have hlen : l.length ≤ 10000000000 := by omega
   obtain ⟨lp, lc, rfl⟩ := hl.now.len
   have HL := Lib.hid hl
   obtain ⟨i0, hi, hq0, hq1, hq2⟩ := infoParts eltInt.inf
   have I0 := Lib.hid hi; have I00 := Lib.hid hq0; have I01 := Lib.hid hq1; have I02 := Lib.hid hq2
   clear hl hi hq0 hq1 hq2 ht hsz
   rw [Ux.vs_v, firsts_one]
   obtain ⟨R, hR⟩ : ∃ R, R = (if l.contains m then l else l ++ [m]) := ⟨_, rfl⟩
   rw [← hR]
   have HR := Lib.hid hR
   clear hR
   go_enter Tryd.func20, Tryd.ntmps20
   have ET := Lib.hid (ent_new w #[.int .i64 m, .string s, .slice q jj c] 30)
   have HB := Lib.hid (show Below w.heap.size w (w.alloc (.cells #[.int .i64 m, .string s, .slice q jj c] 30)) from (Below.refl _ _).alloc (Nat.le_refl _) _)
   have HSZ := Lib.hid (show w.heap.size + 1 ≤ (w.alloc (.cells #[.int .i64 m, .string s, .slice q jj c] 30)).heap.size by simp)
   go_upto_region 1 with fail
   generalize w.alloc (.cells #[.int .i64 m, .string s, .slice q jj c] 30) = w1 at ET HB HSZ ⊢
   have t0 := ent_cell ET.out 0 _ rfl
   have hm : (0 : Int) ≤ (m : Int) := by omega
   obtain ⟨n0, hn0⟩ : ∃ n0, n0 = l.length := ⟨_, rfl⟩
   rw [← hn0]
   have HN := Lib.hid hn0
   clear hn0
   go_wp2_with fail
   clear t0
   go_loopw [5] (fun i wr => ∃ j : Nat, i = .int .i64 j ∧ j ≤ n0 ∧ Hid (∀ x ∈ l.take j, x ≠ m) ∧ Hid (wr.heap[w.heap.size]? = some (.cells #[.int .i64 m, .string s, .slice q jj c] 30 (0, 0))) ∧ Hid (Below w.heap.size w wr) ∧ Hid (w.heap.size + 1 ≤ wr.heap.size)) (fun i _ => n0 - (intOf i).toNat)
   case atStart => exact ⟨0, rfl, Nat.zero_le _, Lib.hid (by simp), ET, HB, HSZ⟩
   case round =>
    clear ET HB HSZ
    obtain ⟨j, rfl, hj, HT, ET, HB, HSZ⟩ := hrel
    by_cases hlt : j < n0
    · obtain ⟨x, hx⟩ : ∃ x, l[j]? = some x := ⟨_, List.getElem?_eq_getElem (by have := HN.out; omega)⟩
      rcases HL.out.now' hbase HB.out with ⟨h0, _⟩ | ⟨g, of, c', hv, g1, g2, g3⟩
      · rw [h0] at hx; cases hx
      rw [← HN.out] at hv g1
      injection hv with hq1 _ hq2
      subst hq1; subst hq2
      obtain ⟨u, hu, _, hcell⟩ := g3 j x hx
      have x0 := hcell 0 (.int .i64 (x : Int)) (by rw [show u = .int .i64 (x : Int) from hu]; rfl)
      rw [Nat.mul_one, Nat.add_zero] at x0
      have hk1 : (j : Int) < (n0 : Int) := by omega
      have hk2 : (n0 : Int) ≤ (lc : Int) := by omega
      have hk3 := g2
      have t0 := ent_cell ET.out 0 _ rfl
      have HX := Lib.hid hx
      clear g3 hcell hu hx
      by_cases hxm : x = m
      · subst hxm
        have HV : Hid (R = l) := Lib.hid (by rw [HR.out, if_pos (by simpa using List.mem_of_getElem? HX.out)])
        go_wp2_with fail
        go_quiet (fail)
        go_wp2_with fail
        go_ret
        refine ⟨_, rfl, below_drewN HB.out _, ?_⟩
        rw [HV.out]
        refine show Hang NumsR base lo (wr.drewN _).heap.size (wr.drewN _) (.slice (some ⟨g, of, none⟩) n0 lc) l from ?_
        have h1 := HL.out
        rw [← HN.out] at h1
        exact (h1.same fun b hb => HB.out.block b (by omega)).wide (Nat.le_refl _) (Nat.le_refl _) (below_drewN HB.out _).size
      · have hne : ((x : Int) == (m : Int)) = false := by simp; omega
        have HT1 : Hid (∀ y ∈ l.take (j + 1), y ≠ m) := Lib.hid (by
         intro y hy
         rw [List.take_add_one, HX.out] at hy
         rcases List.mem_append.1 hy with h | h
         · exact HT.out y h
         · simp at h; rw [h]; exact hxm)
        go_wp2_with fail
        go_quiet (fail)
        go_wp2_with fail
        go_roundw
        case rel =>
         exact ⟨j + 1, by go_num, by omega, HT1, Lib.hid ET.out, Lib.hid (below_drewN HB.out _), Lib.hid HSZ.out⟩
        case measure => simp [intOf]; omega
    · obtain rfl : j = n0 := by omega
      have HV : Hid (R = l ++ [m]) := Lib.hid (by
       rw [HR.out, if_neg]
       intro h
       have h2 := HT.out m
       rw [HN.out, List.take_length] at h2
       exact h2 (by simpa using h) rfl)
      clear hj hlt
      go_upto_region 7 with fail
      refine wp_region_held_drew (S := fun (u : World) => u.heap[w.heap.size]? = some (.cells #[.int .i64 m, .string s, .slice q jj c] 30 (0, 0))) (by kernel_rfl) (show wr.drew.heap[w.heap.size]? = _ from ET.out) (fun hHeld => ?_)
      replace ET : Hid (wr.drew.heap[w.heap.size]? = some (.cells #[.int .i64 m, .string s, .slice q jj c] 30 (0, 0))) := Lib.hid ET.out
      replace HB : Hid (Below w.heap.size w wr.drew) := Lib.hid HB.out.drew
      replace HSZ : Hid (w.heap.size + 1 ≤ wr.drew.heap.size) := Lib.hid HSZ.out
      generalize wr.drew = v0 at ET HB HSZ hHeld ⊢
      rw [HN.out]
      refine wpAnyH_take (i := 1) (v := .slice lp l.length lc) rfl (by kernel_rfl) (by kernel_rfl) (by kernel_rfl) (fun _ _ _ h => h) (Or.inl ⟨by rfl, fun w' hSw => by go_simp⟩) hHeld ?_
      refine wpAnyH_take (i := 3) (v := .pointer (some ⟨w.heap.size, 0, none⟩)) rfl (by kernel_rfl) (by kernel_rfl) (by kernel_rfl) (fun _ _ _ h => h) (Or.inl ⟨by rfl, fun w' hSw => by go_simp⟩) hHeld ?_
      refine wpAnyH_take (i := 4) (v := .int .i64 (m : Int)) rfl (by kernel_rfl) (by kernel_rfl) (by kernel_rfl) (fun _ _ _ h => h) (Or.inl ⟨by rfl, fun w' hSw => by have t0 := ent_cell (show w'.heap[w.heap.size]? = _ from hSw) 0 _ rfl; go_simp⟩) hHeld ?_
      try simp only [Act.put, List.getElem_toArray, List.getElem_cons_succ, List.getElem_cons_zero, List.setIfInBounds_toArray, List.set_cons_zero, List.set_cons_succ]
      refine wpAnyH_ready (rs := [0, 5]) (by kernel_rfl) (by simp) ?_
      refine AllReadyH.cons rfl (fun K hK => ?_) (AllReadyH.cons rfl (fun K hK => ?_) AllReadyH.nil)
      · go_simp
        have HBn := Lib.hid (HB.out.alloc HB.out.size (.cells #[] 3))
        have ETn := Lib.hid (ent_alloc ET.out (.cells #[] 3))
        have HLn := Lib.hid (Nat.le_trans HSZ.out (show v0.heap.size ≤ (v0.alloc (.cells #[] 3)).heap.size by simp))
        have HOn := Lib.hid (World.ownsRow_lit (base := w.heap.size + 1) (e := 3) (size := 1) v0 #[] 0 HSZ.out (by unfold maxLen; omega) rfl)
        have hsz0 : (v0.alloc (.cells #[] 3)).heap.size = v0.heap.size + 1 := by simp
        obtain ⟨b0, hb0⟩ : ∃ b0, b0 = v0.heap.size := ⟨_, rfl⟩
        rw [← hb0] at HOn ⊢
        refine hK.out _ _ ETn.out (fun hHeld => ?_)
        clear hK K HB ET HSZ
        have HB := HBn; have ET := ETn; have HSZ := HLn; have HO := HOn
        have HB0 := Lib.hid (show b0 < (v0.alloc (.cells #[] 3)).heap.size by rw [hsz0]; omega)
        clear HBn ETn HLn HOn hsz0 hb0
        generalize v0.alloc (.cells #[] 3) = v1 at *
        refine wpAnyH_ready (rs := [2, 5]) (by kernel_rfl) (by simp) ?_
        refine AllReadyH.cons rfl (fun K hK => ?_) (AllReadyH.cons rfl (fun K hK => ?_) AllReadyH.nil)
        · refine step_append_rows (rep := NumV) (w := v1) rfl (.tmp 24) (.tmp 25) 42 rfl (w.heap.size + 1) 3 i0 (.int .i64 0) 1 8 Tryd.underlying42 I0.out I00.out I01.out I02.out rfl (by decide) (.slice (some ⟨b0, 0, none⟩) 0 0) 0 [] rfl HO.out (.slice lp l.length lc) rfl l (HL.out.now' hbase HB.out) numV_one (by unfold maxLen; omega) (by omega) HSZ.out ?_
          intro va v2 us hus husz hown hgr hloc
          rw [Nat.zero_add, List.nil_append] at hown
          obtain rfl := reps_nums hus
          rw [cells_nums] at hown
          obtain ⟨p2, c2, rfl⟩ := own_slice hown
          have HBn := Lib.hid (HB.out.grown hgr HB.out.size (fun kk hkk => by have := (HO.out.lt kk hkk).1; omega))
          have ETn := Lib.hid ((hgr.block _ (ent_lt ET.out) (fun e => by have := (HO.out.lt _ e.symm).1; omega)).trans ET.out)
          have HLn := Lib.hid (Nat.le_trans HSZ.out hgr.size)
          have HOn := Lib.hid hown
          refine hK.out _ _ ETn.out (fun hHeld => ?_)
          clear hK K HB ET HSZ HO hgr hloc hown hus husz
          have HB := HBn; have ET := ETn; have HSZ := HLn; have HO := HOn
          clear HBn ETn HLn HOn
          refine wpAnyH_ready (rs := [5]) (by kernel_rfl) (by simp) ?_
          refine AllReadyH.cons rfl (fun K hK => ?_) AllReadyH.nil
          have t0 := ent_cell ET.out 0 _ rfl
          go_simp
          clear t0
          have HBn := Lib.hid (HB.out.alloc HB.out.size (.cells #[.int .i64 (m : Int)] 3))
          have ETn := Lib.hid (ent_alloc ET.out (.cells #[.int .i64 (m : Int)] 3))
          have HLn := Lib.hid (Nat.le_trans HSZ.out (show v2.heap.size ≤ (v2.alloc (.cells #[.int .i64 (m : Int)] 3)).heap.size by simp))
          have H1n := Lib.hid (ent_new v2 #[.int .i64 (m : Int)] 3)
          have HOn := Lib.hid (HO.out.alloc (.cells #[.int .i64 (m : Int)] 3))
          have HN1 := Lib.hid (show ∀ b, (Value.slice p2 l.length c2).ownBlock = some b → b ≠ v2.heap.size from fun b hb e => by have := (HO.out.lt b hb).2; omega)
          obtain ⟨b1, hb1⟩ : ∃ b1, b1 = v2.heap.size := ⟨_, rfl⟩
          rw [← hb1] at H1n HN1 ⊢
          refine hK.out _ _ ETn.out (fun hHeld => ?_)
          clear hK K HB ET HSZ HO
          have HB := HBn; have ET := ETn; have HSZ := HLn; have H1 := H1n; have HO := HOn
          clear HBn ETn HLn H1n HOn hb1
          generalize v2.alloc (.cells #[.int .i64 (m : Int)] 3) = v3 at *
          refine wpAnyH_ready (rs := [6]) (by kernel_rfl) (by simp) ?_
          refine AllReadyH.cons rfl (fun K hK => ?_) AllReadyH.nil
          refine step_append_loc (w := v3) rfl (.tmp 26) (.tmp 29) 42 rfl (w.heap.size + 1) 3 i0 (.int .i64 0) 1 8 Tryd.underlying42 I0.out I00.out I01.out I02.out rfl (by decide) (.slice p2 l.length c2) l.length (nums' l) rfl HO.out ⟨b1, 0, none⟩ 1 1 [.int .i64 (m : Int)] rfl (by decide) rfl (one_cell H1.out) (by intro u hu; rw [List.mem_singleton.1 hu]; rfl) (by unfold maxLen; omega) (by omega) HSZ.out ?_
          intro vf v4 hown hgr hloc
          rw [nums_snoc] at hown
          obtain ⟨p3, c3, rfl⟩ := own_slice hown
          have HBn := Lib.hid (HB.out.grown hgr HB.out.size (fun kk hkk => by have := (HO.out.lt kk hkk).1; omega))
          have ETn := Lib.hid ((hgr.block _ (ent_lt ET.out) (fun e => by have := (HO.out.lt _ e.symm).1; omega)).trans ET.out)
          have HOn := Lib.hid hown
          refine hK.out _ _ ETn.out (fun hHeld => ?_)
          clear hK K HB ET HSZ HO hgr hloc hown
          refine wpAnyH_ready (rs := [7]) (by kernel_rfl) (by simp) ?_
          refine AllReadyH.cons rfl (fun K hK => ?_) AllReadyH.nil
          go_simp
          refine hK.out _ _ ETn.out (fun hHeld => ?_)
          clear hK K
          refine wpAnyH_done (by kernel_rfl) ?_ _
          go_wp2_with fail
          go_ret
          refine ⟨_, rfl, HBn.out, ?_⟩
          rw [HV.out]
          exact fun u hu => nums_row HOn.out (by simp) fun b hb1 hb2 => hu b (.inr ⟨by omega, hb2⟩)
        · have t0 := ent_cell ET.out 0 _ rfl
          go_simp
          clear t0
          have HBn := Lib.hid (HB.out.alloc HB.out.size (.cells #[.int .i64 (m : Int)] 3))
          have ETn := Lib.hid (ent_alloc ET.out (.cells #[.int .i64 (m : Int)] 3))
          have HLn := Lib.hid (Nat.le_trans HSZ.out (show v1.heap.size ≤ (v1.alloc (.cells #[.int .i64 (m : Int)] 3)).heap.size by simp))
          have H1n := Lib.hid (ent_new v1 #[.int .i64 (m : Int)] 3)
          have HOn := Lib.hid (HO.out.alloc (.cells #[.int .i64 (m : Int)] 3))
          have HN1 := Lib.hid (show ∀ b, (Value.slice (some ⟨b0, 0, none⟩) 0 0).ownBlock = some b → b ≠ v1.heap.size from fun b hb e => by have := (HO.out.lt b hb).2; omega)
          obtain ⟨b1, hb1⟩ : ∃ b1, b1 = v1.heap.size := ⟨_, rfl⟩
          rw [← hb1] at H1n HN1 ⊢
          refine hK.out _ _ ETn.out (fun hHeld => ?_)
          clear hK K HB ET HSZ HO
          have HB := HBn; have ET := ETn; have HSZ := HLn; have H1 := H1n; have HO := HOn
          clear HBn ETn HLn H1n HOn hb1
          generalize v1.alloc (.cells #[.int .i64 (m : Int)] 3) = v2 at *
          refine wpAnyH_ready (rs := [2]) (by kernel_rfl) (by simp) ?_
          refine AllReadyH.cons rfl (fun K hK => ?_) AllReadyH.nil
          refine step_append_rows (rep := NumV) (w := v2) rfl (.tmp 24) (.tmp 25) 42 rfl (w.heap.size + 1) 3 i0 (.int .i64 0) 1 8 Tryd.underlying42 I0.out I00.out I01.out I02.out rfl (by decide) (.slice (some ⟨b0, 0, none⟩) 0 0) 0 [] rfl HO.out (.slice lp l.length lc) rfl l (HL.out.now' hbase HB.out) numV_one (by unfold maxLen; omega) (by omega) HSZ.out ?_
          intro va v3 us hus husz hown hgr hloc
          rw [Nat.zero_add, List.nil_append] at hown
          obtain rfl := reps_nums hus
          rw [cells_nums] at hown
          obtain ⟨p2, c2, rfl⟩ := own_slice hown
          have HBn := Lib.hid (HB.out.grown hgr HB.out.size (fun kk hkk => by have := (HO.out.lt kk hkk).1; omega))
          have ETn := Lib.hid ((hgr.block _ (ent_lt ET.out) (fun e => by have := (HO.out.lt _ e.symm).1; omega)).trans ET.out)
          have HLn := Lib.hid (Nat.le_trans HSZ.out hgr.size)
          have H1n := Lib.hid ((hgr.block _ (ent_lt H1.out) (fun e => HN1.out b1 e.symm rfl)).trans H1.out)
          have HN1n := Lib.hid (show ∀ b, (Value.slice p2 l.length c2).ownBlock = some b → b ≠ b1 from fun b hb e => by
           rcases hloc with h | h
           · exact HN1.out b (h ▸ hb) e
           · have := h b hb; have := ent_lt H1.out; omega)
          have HOn := Lib.hid hown
          refine hK.out _ _ ETn.out (fun hHeld => ?_)
          clear hK K HB ET HSZ HO hgr hloc hown hus husz H1 HN1
          have HB := HBn; have ET := ETn; have HSZ := HLn; have HO := HOn; have H1 := H1n; have HN1 := HN1n
          clear HBn ETn HLn HOn H1n HN1n
          refine wpAnyH_ready (rs := [6]) (by kernel_rfl) (by simp) ?_
          refine AllReadyH.cons rfl (fun K hK => ?_) AllReadyH.nil
          refine step_append_loc (w := v3) rfl (.tmp 26) (.tmp 29) 42 rfl (w.heap.size + 1) 3 i0 (.int .i64 0) 1 8 Tryd.underlying42 I0.out I00.out I01.out I02.out rfl (by decide) (.slice p2 l.length c2) l.length (nums' l) rfl HO.out ⟨b1, 0, none⟩ 1 1 [.int .i64 (m : Int)] rfl (by decide) rfl (one_cell H1.out) (by intro u hu; rw [List.mem_singleton.1 hu]; rfl) (by unfold maxLen; omega) (by omega) HSZ.out ?_
          intro vf v4 hown hgr hloc
          rw [nums_snoc] at hown
          obtain ⟨p3, c3, rfl⟩ := own_slice hown
          have HBn := Lib.hid (HB.out.grown hgr HB.out.size (fun kk hkk => by have := (HO.out.lt kk hkk).1; omega))
          have ETn := Lib.hid ((hgr.block _ (ent_lt ET.out) (fun e => by have := (HO.out.lt _ e.symm).1; omega)).trans ET.out)
          have HOn := Lib.hid hown
          refine hK.out _ _ ETn.out (fun hHeld => ?_)
          clear hK K HB ET HSZ HO hgr hloc hown
          refine wpAnyH_ready (rs := [7]) (by kernel_rfl) (by simp) ?_
          refine AllReadyH.cons rfl (fun K hK => ?_) AllReadyH.nil
          go_simp
          refine hK.out _ _ ETn.out (fun hHeld => ?_)
          clear hK K
          refine wpAnyH_done (by kernel_rfl) ?_ _
          go_wp2_with fail
          go_ret
          refine ⟨_, rfl, HBn.out, ?_⟩
          rw [HV.out]
          exact fun u hu => nums_row HOn.out (by simp) fun b hb1 hb2 => hu b (.inr ⟨by omega, hb2⟩)
      · have t0 := ent_cell ET.out 0 _ rfl
        go_simp
        clear t0
        have HBn := Lib.hid (HB.out.alloc HB.out.size (.cells #[.int .i64 (m : Int)] 3))
        have ETn := Lib.hid (ent_alloc ET.out (.cells #[.int .i64 (m : Int)] 3))
        have HLn := Lib.hid (Nat.le_trans HSZ.out (show v0.heap.size ≤ (v0.alloc (.cells #[.int .i64 (m : Int)] 3)).heap.size by simp))
        have H1n := Lib.hid (ent_new v0 #[.int .i64 (m : Int)] 3)
        obtain ⟨b1, hb1⟩ : ∃ b1, b1 = v0.heap.size := ⟨_, rfl⟩
        rw [← hb1] at H1n ⊢
        refine hK.out _ _ ETn.out (fun hHeld => ?_)
        clear hK K HB ET HSZ
        have HB := HBn; have ET := ETn; have HSZ := HLn; have H1 := H1n
        clear HBn ETn HLn H1n hb1
        generalize v0.alloc (.cells #[.int .i64 (m : Int)] 3) = v1 at *
        refine wpAnyH_ready (rs := [0]) (by kernel_rfl) (by simp) ?_
        refine AllReadyH.cons rfl (fun K hK => ?_) AllReadyH.nil
        go_simp
        have HBn := Lib.hid (HB.out.alloc HB.out.size (.cells #[] 3))
        have ETn := Lib.hid (ent_alloc ET.out (.cells #[] 3))
        have HLn := Lib.hid (Nat.le_trans HSZ.out (show v1.heap.size ≤ (v1.alloc (.cells #[] 3)).heap.size by simp))
        have HOn := Lib.hid (World.ownsRow_lit (base := w.heap.size + 1) (e := 3) (size := 1) v1 #[] 0 HSZ.out (by unfold maxLen; omega) rfl)
        have H1n := Lib.hid (ent_alloc H1.out (.cells #[] 3)); have HN1 := Lib.hid (show ∀ b, (Value.slice (some ⟨v1.heap.size, 0, none⟩) 0 0).ownBlock = some b → b ≠ b1 from fun b hb e => by simp [Value.ownBlock] at hb; have := ent_lt H1.out; omega)
        obtain ⟨b0, hb0⟩ : ∃ b0, b0 = v1.heap.size := ⟨_, rfl⟩
        rw [← hb0] at HOn HN1 ⊢
        refine hK.out _ _ ETn.out (fun hHeld => ?_)
        clear hK K HB ET HSZ H1
        have HB := HBn; have ET := ETn; have HSZ := HLn; have HO := HOn; have H1 := H1n
        clear HBn ETn HLn HOn H1n hb0
        generalize v1.alloc (.cells #[] 3) = v2 at *
        refine wpAnyH_ready (rs := [2]) (by kernel_rfl) (by simp) ?_
        refine AllReadyH.cons rfl (fun K hK => ?_) AllReadyH.nil
        refine step_append_rows (rep := NumV) (w := v2) rfl (.tmp 24) (.tmp 25) 42 rfl (w.heap.size + 1) 3 i0 (.int .i64 0) 1 8 Tryd.underlying42 I0.out I00.out I01.out I02.out rfl (by decide) (.slice (some ⟨b0, 0, none⟩) 0 0) 0 [] rfl HO.out (.slice lp l.length lc) rfl l (HL.out.now' hbase HB.out) numV_one (by unfold maxLen; omega) (by omega) HSZ.out ?_
        intro va v3 us hus husz hown hgr hloc
        rw [Nat.zero_add, List.nil_append] at hown
        obtain rfl := reps_nums hus
        rw [cells_nums] at hown
        obtain ⟨p2, c2, rfl⟩ := own_slice hown
        have HBn := Lib.hid (HB.out.grown hgr HB.out.size (fun kk hkk => by have := (HO.out.lt kk hkk).1; omega))
        have ETn := Lib.hid ((hgr.block _ (ent_lt ET.out) (fun e => by have := (HO.out.lt _ e.symm).1; omega)).trans ET.out)
        have HLn := Lib.hid (Nat.le_trans HSZ.out hgr.size)
        have H1n := Lib.hid ((hgr.block _ (ent_lt H1.out) (fun e => HN1.out b1 e.symm rfl)).trans H1.out)
        have HN1n := Lib.hid (show ∀ b, (Value.slice p2 l.length c2).ownBlock = some b → b ≠ b1 from fun b hb e => by
         rcases hloc with h | h
         · exact HN1.out b (h ▸ hb) e
         · have := h b hb; have := ent_lt H1.out; omega)
        have HOn := Lib.hid hown
        refine hK.out _ _ ETn.out (fun hHeld => ?_)
        clear hK K HB ET HSZ HO hgr hloc hown hus husz H1 HN1
        have HB := HBn; have ET := ETn; have HSZ := HLn; have HO := HOn; have H1 := H1n; have HN1 := HN1n
        clear HBn ETn HLn HOn H1n HN1n
        refine wpAnyH_ready (rs := [6]) (by kernel_rfl) (by simp) ?_
        refine AllReadyH.cons rfl (fun K hK => ?_) AllReadyH.nil
        refine step_append_loc (w := v3) rfl (.tmp 26) (.tmp 29) 42 rfl (w.heap.size + 1) 3 i0 (.int .i64 0) 1 8 Tryd.underlying42 I0.out I00.out I01.out I02.out rfl (by decide) (.slice p2 l.length c2) l.length (nums' l) rfl HO.out ⟨b1, 0, none⟩ 1 1 [.int .i64 (m : Int)] rfl (by decide) rfl (one_cell H1.out) (by intro u hu; rw [List.mem_singleton.1 hu]; rfl) (by unfold maxLen; omega) (by omega) HSZ.out ?_
        intro vf v4 hown hgr hloc
        rw [nums_snoc] at hown
        obtain ⟨p3, c3, rfl⟩ := own_slice hown
        have HBn := Lib.hid (HB.out.grown hgr HB.out.size (fun kk hkk => by have := (HO.out.lt kk hkk).1; omega))
        have ETn := Lib.hid ((hgr.block _ (ent_lt ET.out) (fun e => by have := (HO.out.lt _ e.symm).1; omega)).trans ET.out)
        have HOn := Lib.hid hown
        refine hK.out _ _ ETn.out (fun hHeld => ?_)
        clear hK K HB ET HSZ HO hgr hloc hown
        refine wpAnyH_ready (rs := [7]) (by kernel_rfl) (by simp) ?_
        refine AllReadyH.cons rfl (fun K hK => ?_) AllReadyH.nil
        go_simp
        refine hK.out _ _ ETn.out (fun hHeld => ?_)
        clear hK K
        refine wpAnyH_done (by kernel_rfl) ?_ _
        go_wp2_with fail
        go_ret
        refine ⟨_, rfl, HBn.out, ?_⟩
        rw [HV.out]
        exact fun u hu => nums_row HOn.out (by simp) fun b hb1 hb2 => hu b (.inr ⟨by omega, hb2⟩)
 | ha nm xs ih =>
   intro v lv l base lo w hbase hlo ht hl hsz
   obtain ⟨kt, av, hkt, rfl, hx, _⟩ := tyP_a.1 ht
   obtain ⟨q, cp, rfl⟩ := hx.len
   have HX := Lib.hid hx; have HIH := Lib.hid ih; have HL := Lib.hid hl
   have HSZ : Hid (l.length + (xs.map Ux.Ty.sz).sum ≤ 10000000000) := Lib.hid (by rw [Ux.sz_a] at hsz; omega)
   rw [Ux.vs_a]
   clear ht hl hsz hx ih
   go_enter Tryd.func20, Tryd.ntmps20
   have ET := Lib.hid (ent_new w #[.int .i64 kt, .string ⟨nm.toArray⟩, .slice q xs.length cp] 30)
   have HB := Lib.hid (show Below w.heap.size w (w.alloc (.cells #[.int .i64 kt, .string ⟨nm.toArray⟩, .slice q xs.length cp] 30)) from (Below.refl _ _).alloc (Nat.le_refl _) _)
   go_upto_region 1 with fail
   generalize w.alloc (.cells #[.int .i64 kt, .string ⟨nm.toArray⟩, .slice q xs.length cp] 30) = w1 at ET HB ⊢
   have t0 := ent_cell ET.out 0 _ rfl
   have t2 := ent_cell ET.out 2 _ rfl
   obtain ⟨n0, hn0⟩ : ∃ n0, n0 = xs.length := ⟨_, rfl⟩
   rw [← hn0] at t2 ET ⊢
   have HN := Lib.hid hn0
   clear hn0
   go_wp2_with fail
   clear t0 t2
   go_loopw [1, 6] (fun lr i wr => ∃ j : Nat, i = .int .i64 j ∧ j ≤ n0 ∧ Hid (Hang NumsR base lo wr.heap.size wr lr (Ux.firsts l ((xs.take j).flatMap Ux.Ty.vs))) ∧ Hid (wr.heap[w.heap.size]? = some (.cells #[.int .i64 kt, .string ⟨nm.toArray⟩, .slice q n0 cp] 30 (0, 0))) ∧ Hid (Below w.heap.size w wr)) (fun _ i _ => n0 - (intOf i).toNat)
   case atStart => exact ⟨0, rfl, Nat.zero_le _, Lib.hid ((HL.out.same fun b hb => HB.out.block b (by omega)).wide (Nat.le_refl _) (Nat.le_refl _) HB.out.size), ET, HB⟩
   case round =>
    clear ET HB
    obtain ⟨j, rfl, hj, HR, ET, HB⟩ := hrel
    have t2 := ent_cell ET.out 2 _ rfl
    by_cases hlt : j < n0
    · obtain ⟨x, hx1⟩ : ∃ x, xs[j]? = some x := ⟨_, List.getElem?_eq_getElem (by have := HN.out; omega)⟩
      have hmem := List.mem_of_getElem? hx1
      have HTK : Hid (Ux.firsts l ((xs.take (j + 1)).flatMap Ux.Ty.vs) = Ux.firsts (Ux.firsts l ((xs.take j).flatMap Ux.Ty.vs)) x.vs) := Lib.hid (by rw [← Ux.firsts_app, List.take_add_one, hx1, List.flatMap_append]; simp)
      have HLN : Hid ((Ux.firsts l ((xs.take j).flatMap Ux.Ty.vs)).length + x.sz ≤ 10000000000) := Lib.hid (by
       have h1 := firsts_len ((xs.take j).flatMap Ux.Ty.vs) l
       have h2 := vss_len (xs.take j)
       have h3 : ((xs.take (j + 1)).map Ux.Ty.sz).sum ≤ (xs.map Ux.Ty.sz).sum := by
        conv => rhs; rw [← List.take_append_drop (j + 1) xs, List.map_append, List.sum_append]
        omega
       rw [List.take_add_one, hx1, List.map_append, List.sum_append] at h3
       rw [show (some x).toList = [x] from rfl, List.map_singleton, List.sum_singleton] at h3
       have := HSZ.out
       omega)
      rcases HX.out with ⟨h0, _⟩ | ⟨g, of, c', hv, g1, g2, g3⟩
      · rw [h0] at hx1; cases hx1
      rw [← HN.out] at hv g1
      injection hv with hq1 _ hq2
      subst hq1; subst hq2
      obtain ⟨u, hu, _, hcell⟩ := g3 j x hx1
      obtain ⟨a0, a1, uq, un, uc, rfl⟩ := tyP_sh hu
      have up : ∀ j' z, (Value.agg #[.int .i64 a0, .string a1, .slice uq un uc]).cells[j']? = some z → wr.cell? ⟨g, of + j * 3 + j', none⟩ = some z := fun j' z hz => cell_up HB.out (hcell j' z hz)
      have x0 : wr.cell? ⟨g, of + j * 3, none⟩ = some (.int .i64 a0) := up 0 _ rfl
      have x1 : wr.cell? ⟨g, of + j * 3 + 1, none⟩ = some (.string a1) := up 1 _ rfl
      have x2 : wr.cell? ⟨g, of + j * 3 + 2, none⟩ = some (.slice uq un uc) := up 2 _ rfl
      have hk1 : (j : Int) < (n0 : Int) := by omega
      have hk2 : (n0 : Int) ≤ (cp : Int) := by omega
      have hk3 := g2
      have HU := Lib.hid (tyP_below hu HB.out)
      have HIX := Lib.hid (HIH.out x hmem)
      clear up g3 hcell hu hx1 hmem
      go_wp2_with fail
      refine (HIX.out _ _ _ base lo wr (Nat.le_trans hbase HB.out.size) (Nat.le_trans hlo HB.out.size) HU.out HR.out HLN.out).mono ?_
      rintro e w2 ⟨r, rfl, hb2, hh2⟩
      have HR2 : Hid (Hang NumsR base lo w2.heap.size w2 r (Ux.firsts l ((xs.take (j + 1)).flatMap Ux.Ty.vs))) := Lib.hid (by rw [HTK.out]; exact hh2)
      have ET2 := Lib.hid (ent_below ET.out hb2)
      have HB2 := Lib.hid (HB.out.trans (hb2.mono HB.out.size))
      clear hb2 hh2 x0 x1 x2 t2
      go_wp2_with fail
      go_roundw
      case rel => exact ⟨j + 1, by go_num, by omega, HR2, ET2, HB2⟩
      case measure => simp [intOf]; omega
    · obtain rfl : j = n0 := by omega
      go_wp2_with fail
      go_ret
      refine ⟨_, rfl, HB.out, ?_⟩
      have h := HR.out
      rw [HN.out, List.take_length] at h
      exact h
end Go.Proofs.YtcblppojnailpaaDoor
