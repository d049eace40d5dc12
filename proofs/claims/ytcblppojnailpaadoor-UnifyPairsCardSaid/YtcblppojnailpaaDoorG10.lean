/-
  Several texts in one: UJd, UEnd3, UTellP, UTell, UUni, UOf.
-/
import Derived.Test.YtcblppojnailpaaDoorG09
import Derived.Test.YtcblppojnailpaaDoorG07
import Derived.BigRegion
import Derived.Test.YtcblppojnailpaaDoorG01
namespace Go.Proofs.YtcblppojnailpaaDoor
open Go Go.RowKit
set_option linter.unusedVariables false
set_option linter.unusedSimpArgs false
theorem OwnM.keep {Q : LKey → Prop} {mb db : Nat} {c : Asg} {n : Nat} {w w' : World} (h : OwnM Q mb db c n w) (h1 : w'.heap[mb]? = w.heap[mb]?) (h2 : w'.heap[db]? = w.heap[db]?) (hq : ∀ x, Q x → w'.heap[x.1]? = w.heap[x.1]?) (hc : ∀ B, c B ≠ none → w'.heap[B]? = w.heap[B]?) (hs : w.heap.size ≤ w'.heap.size) : OwnM Q mb db c n w' :=
 ⟨h.mks.keep h1 h2 hq fun _ _ h => h, fun B ys hB => (h.made B ys hB).keep (hc B (by rw [hB]; simp)) fun _ _ h => h, fun B ys hB => by have := h.old B ys hB; exact ⟨by omega, this.2⟩⟩
set_option maxHeartbeats 4000000 in
set_option maxRecDepth 100000 in
theorem joined_any {Us : List LKey} {f : Ux.Map} {fc fb sc sb vb lb gb y : Nat} (hf : Ux.Fine f) (ta tb : Ux.Ty) (va vB : Value) (w : World) (hr : GRaw (· ∈ Us) f fc fb sc sb vb lb gb y w) (hus : ∀ x ∈ Us, x.1 ≠ gb ∧ x.1 ≠ vb ∧ x.1 ≠ lb ∧ x.1 ≠ fb) (hus2 : ∀ x ∈ Us, x.1 ≠ sb) (hta : TyQ (· ∈ Us) w va ta) (htb : TyQ (· ∈ Us) w vB tb) (hfew : llen Us + ta.sz + tb.sz ≤ 100000) :
 Calls Tryd.prog 32 #[.pointer (some ⟨gb, 0, none⟩), va, vB] w (JdPost f gb vb lb fb sb (llen Us + ta.sz + tb.sz) ta tb w) := by
 obtain ⟨ka, sa, qa, ma, ca, rfl⟩ := tyQ_sh hta
 obtain ⟨kb, sb', qb, mb', cb, rfl⟩ := tyQ_sh htb
 have HR := Lib.hid hr; have HUS := Lib.hid hus; have HUS2 := Lib.hid hus2; have HTA := Lib.hid hta; have HTB := Lib.hid htb; have HFEW := Lib.hid hfew
 clear hr hus hus2 hta htb hfew
 go_enter Tryd.func32, Tryd.ntmps32
 have HB1 := Lib.hid (show Below w.heap.size w ((w.alloc (.cells #[.int .i64 ka, .string sa, .slice qa ma ca] 30)).alloc (.cells #[.int .i64 kb, .string sb', .slice qb mb' cb] 30)) from ((Below.refl _ _).alloc (Nat.le_refl _) _).alloc (by simp) _)
 have EA := Lib.hid (ent_alloc (ent_new w #[.int .i64 ka, .string sa, .slice qa ma ca] 30) (.cells #[.int .i64 kb, .string sb', .slice qb mb' cb] 30))
 have EB := Lib.hid (ent_new (w.alloc (.cells #[.int .i64 ka, .string sa, .slice qa ma ca] 30)) #[.int .i64 kb, .string sb', .slice qb mb' cb] 30)
 rw [show (w.alloc (.cells #[.int .i64 ka, .string sa, .slice qa ma ca] 30)).heap.size = w.heap.size + 1 by simp] at EB
 have hs1 : ((w.alloc (.cells #[.int .i64 ka, .string sa, .slice qa ma ca] 30)).alloc (.cells #[.int .i64 kb, .string sb', .slice qb mb' cb] 30)).heap.size = w.heap.size + 2 := by simp
 go_upto_region 1 with fail
 generalize (w.alloc (.cells #[.int .i64 ka, .string sa, .slice qa ma ca] 30)).alloc (.cells #[.int .i64 kb, .string sb', .slice qb mb' cb] 30) = w1 at EA EB HB1 hs1 ⊢
 have HS1 := Lib.hid hs1
 clear hs1
 go_wp2_with fail
 refine (newMaker_any (· ∈ Us) Ux.Ty.v 28 #[] w1).mono ?_
 rintro e w2 ⟨mb, db, rfl, hb2, hmb, hdb, hmk⟩
 have HB2 := Lib.hid hb2
 have EA2 := Lib.hid (ent_below EA.out hb2)
 have EB2 := Lib.hid (ent_below EB.out hb2)
 have hq0 : ∀ x ∈ Us, x.1 < w.heap.size := fun x hx => (HR.out.look.q x hx).1
 have hmd : mb < w2.heap.size ∧ db < w2.heap.size := ⟨ent_lt hmk.cell, by obtain ⟨L, h4, _⟩ := hmk.made; exact h4.lt⟩
 have HMD2 := Lib.hid (show mb < w2.drew.heap.size ∧ db < w2.drew.heap.size from hmd)
 have HQ2 := Lib.hid (show ∀ x, x ∈ Us → x.1 < w2.drew.heap.size ∧ x.1 ≠ mb ∧ x.1 ≠ db from fun x hx => by
  have h1 := hq0 x hx; have h2 := HS1.out; have h3 := HB2.out.size
  show x.1 < w2.heap.size ∧ _
  omega)
 have HTA2 := Lib.hid (show TyQ (· ∈ Us) w2.drew _ ta from tyQ_keep HTA.out fun x hx => (hb2.block _ (by have := hq0 x hx; have := HS1.out; omega)).trans (HB1.out.block _ (hq0 x hx)))
 have HTB2 := Lib.hid (show TyQ (· ∈ Us) w2.drew _ tb from tyQ_keep HTB.out fun x hx => (hb2.block _ (by have := hq0 x hx; have := HS1.out; omega)).trans (HB1.out.block _ (hq0 x hx)))
 have hom : OwnM (· ∈ Us) mb db (fun _ => none) 0 w2 := ⟨hmk, (fun B ys h => by cases h), fun B ys h => by cases h⟩
 have HOM2 : Hid (OwnM (· ∈ Us) mb db (fun _ => none) 0 w2.drew) := Lib.hid (hom.keep rfl rfl (fun _ _ => rfl) (fun _ _ => rfl) (Nat.le_refl _))
 clear hom hmk hb2 hq0 hmd
 go_upto_region 2 with fail
 refine wp_region_held_drew (S := fun (u : World) => u.heap[w.heap.size]? = some (.cells #[.int .i64 ka, .string sa, .slice qa ma ca] 30 (0, 0)) ∧ u.heap[w.heap.size + 1]? = some (.cells #[.int .i64 kb, .string sb', .slice qb mb' cb] 30 (0, 0))) (by kernel_rfl) (⟨EA2.out, EB2.out⟩) (fun hHeld => ?_)
 refine wpAnyH_take (i := 0) (v := .pointer (some ⟨gb, 0, none⟩)) rfl (by kernel_rfl) (by kernel_rfl) (by kernel_rfl) (fun _ _ _ h => h) (Or.inl ⟨by rfl, fun w' hSw => by go_simp⟩) hHeld ?_
 refine wpAnyH_take (i := 1) (v := .pointer (some ⟨mb, 0, none⟩)) rfl (by kernel_rfl) (by kernel_rfl) (by kernel_rfl) (fun _ _ _ h => h) (Or.inl ⟨by rfl, fun w' hSw => by go_simp⟩) hHeld ?_
 refine wpAnyH_take (i := 2) (v := .agg #[.int .i64 ka, .string sa, .slice qa ma ca]) rfl (by kernel_rfl) (by kernel_rfl) (by kernel_rfl) (fun _ _ _ h => h) (Or.inl ⟨by rfl, fun w' hSw => by have t0 := ent_cell hSw.1 0 _ rfl; have t1 := ent_cell hSw.1 1 _ rfl; have t2 := ent_cell hSw.1 2 _ rfl; go_simp⟩) hHeld ?_
 refine wpAnyH_take (i := 5) (v := .pointer (some ⟨gb, 0, none⟩)) rfl (by kernel_rfl) (by kernel_rfl) (by kernel_rfl) (fun _ _ _ h => h) (Or.inl ⟨by rfl, fun w' hSw => by go_simp⟩) hHeld ?_
 refine wpAnyH_take (i := 6) (v := .pointer (some ⟨mb, 0, none⟩)) rfl (by kernel_rfl) (by kernel_rfl) (by kernel_rfl) (fun _ _ _ h => h) (Or.inl ⟨by rfl, fun w' hSw => by go_simp⟩) hHeld ?_
 refine wpAnyH_take (i := 7) (v := .agg #[.int .i64 kb, .string sb', .slice qb mb' cb]) rfl (by kernel_rfl) (by kernel_rfl) (by kernel_rfl) (fun _ _ _ h => h) (Or.inl ⟨by rfl, fun w' hSw => by have t0 := ent_cell hSw.2 0 _ rfl; have t1 := ent_cell hSw.2 1 _ rfl; have t2 := ent_cell hSw.2 2 _ rfl; go_simp⟩) hHeld ?_
 try simp only [Act.put, List.getElem_toArray, List.getElem_cons_succ, List.getElem_cons_zero, List.setIfInBounds_toArray, List.set_cons_zero, List.set_cons_succ]
 refine wpAnyH_ready (rs := [3]) (by kernel_rfl) (by simp) ?_
 refine AllReadyH.cons rfl (fun K hK => ?_) AllReadyH.nil
 go_simp
 refine (ownTyp_any HOM2.out HTA2.out HMD2.out HQ2.out (by have := HFEW.out; omega)).mono ?_
 rintro e w3 ⟨ra, c1, n1, rfl, hom3, hra, hle, hnew, hch3, hn3⟩
 have hs1 := HS1.out
 have hs2 : w2.drew.heap.size = w2.heap.size := rfl
 have hgl : gb < w.heap.size := ent_lt HR.out.cell
 have hlw := HR.out.low
 have hb23 : Below w1.heap.size w1 w3 := (HB2.out.trans ((Below.refl _ _).drew.mono HB2.out.size)).trans (hch3.below (by rw [hs2]; exact HB2.out.size) fun k hk => by omega)
 have hb3 : Below w.heap.size w w3 := HB1.out.trans (hb23.mono (by omega))
 obtain ⟨Ua, hua, hul, hux⟩ := tyQ_fin ta ra hra
 have hmade3 : ∀ B, c1 B ≠ none → w2.heap.size ≤ B ∧ B < w3.heap.size := fun B hB => by
  cases hcB : c1 B with
  | none => exact absurd hcB hB
  | some ys => exact ⟨hnew B hB rfl, (hom3.old B ys hcB).1⟩
 have hU1 : ∀ x ∈ Us ++ Ua, x.1 < w3.heap.size ∧ x.1 ≠ gb ∧ x.1 ≠ vb ∧ x.1 ≠ lb ∧ x.1 ≠ fb := fun x hx => by
  rcases List.mem_append.1 hx with hx | hx
  · have h1 := (HR.out.look.q x hx).1; have h2 := hb3.size; exact ⟨by omega, HUS.out x hx⟩
  · obtain ⟨⟨ys, hys⟩, _⟩ := hux x hx
    have h1 := hmade3 x.1 (by rw [hys]; simp); have h2 := HB2.out.size
    exact ⟨h1.2, by omega, by omega, by omega, by omega⟩
 have hraw := (HR.out.keep hb3).more (Q' := (· ∈ Us ++ Ua)) (fun x hx => List.mem_append.2 (.inl hx)) fun x hx => ⟨(hU1 x hx).1, (hU1 x hx).2.2.2.2⟩
 obtain ⟨C, hgb, hvb, hlb, hfb, hy0, hz, hCU, hCf, hCs, hC, hG, hLo⟩ : ∃ C : GCx, C.gb = gb ∧ C.vb = vb ∧ C.lb = lb ∧ C.fb = fb ∧ C.y0 = w3.heap.size ∧ (C.z0 = 0 ∧ C.z1 = 0) ∧ C.U = Us ++ Ua ∧ C.f = f ∧ (C.fc = fc ∧ C.sc = sc ∧ C.sb = sb) ∧ C.Ok ∧ GSt C 0 w3 [] (fun _ => none) id (.slice none 0 0) ∧ Lows C :=
  let h := hraw.gst hf (by have := HFEW.out; rw [llen_app]; omega) (fun x hx => (hU1 x hx).2) hraw.apart
  ⟨_, rfl, rfl, rfl, rfl, rfl, ⟨rfl, rfl⟩, rfl, rfl, ⟨rfl, rfl, rfl⟩, h.1, h.2.1, h.2.2⟩
 have EA3 := Lib.hid (ent_chg (w := w2.drew) EA2.out hch3 (by omega))
 have EB3 := Lib.hid (ent_chg (w := w2.drew) EB2.out hch3 (by omega))
 have HTB3 := Lib.hid (tyQ_keep HTB2.out fun x hx => hch3.block _ (HQ2.out x hx).1 (by have := (HQ2.out x hx).2; omega))
 have HTRA := Lib.hid (show TyQ (· ∈ C.U) w3 ra ta by rw [hCU]; exact tyQ_more hua fun x hx => ⟨List.mem_append.2 (.inr hx), rfl⟩)
 have HC3 := Lib.hid hC; have HG3 := Lib.hid hG; have HLO3 := Lib.hid hLo; have HOM3 := Lib.hid hom3; have HB3 := Lib.hid hb3; have HMADE := Lib.hid hmade3; have HUL := Lib.hid hul; have HN3 := Lib.hid hn3
 have HCE := Lib.hid (⟨hgb, hvb, hlb, hfb, hy0, hz, hCU, hCf⟩ : C.gb = gb ∧ C.vb = vb ∧ C.lb = lb ∧ C.fb = fb ∧ C.y0 = w3.heap.size ∧ (C.z0 = 0 ∧ C.z1 = 0) ∧ C.U = Us ++ Ua ∧ C.f = f)
 have HCS := Lib.hid hCs; have HUX := Lib.hid (show ∀ x ∈ Ua, ∃ ys, c1 x.1 = some ys from fun x hx => (hux x hx).1)
 have HSZ3 := Lib.hid (⟨hs1, hgl, hlw, hch3.size⟩ : w1.heap.size = w.heap.size + 2 ∧ gb < w.heap.size ∧ _ ∧ w2.drew.heap.size ≤ w3.heap.size)
 clear hs1 hs2 hgl hlw hb23 hb3 hua hul hux hmade3 hU1 hraw hgb hvb hlb hfb hy0 hz hCU hCf hCs hC hG hLo hom3 hra hle hnew hch3 hn3
 refine hK.out _ _ ⟨EA3.out, EB3.out⟩ (fun hHeld => ?_)
 clear hK K
 refine wpAnyH_ready (rs := [4]) (by kernel_rfl) (by simp) ?_
 refine AllReadyH.cons rfl (fun K hK => ?_) AllReadyH.nil
 go_simp
 have hnum := number_any C HC3.out 0 (by omega) [] (fun _ => none) id (.slice none 0 0) ra ta w3 HG3.out HTRA.out
 rw [HCE.out.1] at hnum
 refine hnum.mono ?_
 rintro e w4 ⟨i, ps1, pv1, rfl, g4, ch4, l4, hp4, hps4⟩
 have hs3 := HSZ3.out
 have hce := HCE.out
 have hlw := hs3.2.2.1
 have hb2s := HB2.out.size
 have hsd : w2.drew.heap.size = w2.heap.size := rfl
 have hnk : ∀ b, b ≠ gb ∧ b ≠ vb ∧ b ≠ fb → ¬ NKeep C (.slice none 0 0) b := fun b hb hr => by
  rcases hr with hr | hr | hr | hr
  · exact hb.1 (hr.trans hce.1)
  · exact hb.2.1 (hr.trans hce.2.1)
  · exact hb.2.2 (hr.trans hce.2.2.2.1)
  · cases hr
 have hmd := HMD2.out
 have EA4 := Lib.hid (ent_chg EA3.out ch4 (hnk _ (by omega)))
 have EB4 := Lib.hid (ent_chg EB3.out ch4 (hnk _ (by omega)))
 have HTB4 := Lib.hid (tyQ_keep HTB3.out fun x hx => ch4.block _ (by have := (HQ2.out x hx).1; omega) (hnk _ (by have := HUS.out x hx; exact ⟨this.1, this.2.1, this.2.2.2⟩)))
 have HOM4 := Lib.hid (HOM3.out.keep (ch4.block mb (by omega) (hnk _ (by omega))) (ch4.block db (by omega) (hnk _ (by omega))) (fun x hx => ch4.block _ (by have := (HQ2.out x hx).1; omega) (hnk _ (by have := HUS.out x hx; exact ⟨this.1, this.2.1, this.2.2.2⟩))) (fun B hB => ch4.block _ (HMADE.out B hB).2 (hnk _ (by have := HMADE.out B hB; omega))) ch4.size)
 have HMD4 := Lib.hid (show mb < w4.heap.size ∧ db < w4.heap.size by have := ch4.size; omega)
 have HQ4 := Lib.hid (show ∀ x, x ∈ Us → x.1 < w4.heap.size ∧ x.1 ≠ mb ∧ x.1 ≠ db from fun x hx => by have := HQ2.out x hx; have := ch4.size; omega)
 have HG4 := Lib.hid g4; have HCH4 := Lib.hid ch4; have HL4 := Lib.hid l4; have HP4 := Lib.hid hp4; have HPS4 := Lib.hid hps4
 clear hs3 hce hlw hb2s hsd hnk hmd g4 ch4 l4 hp4 hps4 hnum
 refine hK.out _ _ ⟨EA4.out, EB4.out⟩ (fun hHeld => ?_)
 clear hK K
 refine wpAnyH_ready (rs := [8]) (by kernel_rfl) (by simp) ?_
 refine AllReadyH.cons rfl (fun K hK => ?_) AllReadyH.nil
 go_simp
 refine (ownTyp_any HOM4.out HTB4.out HMD4.out HQ4.out (by have := HFEW.out; have := HN3.out; omega)).mono ?_
 rintro e w5 ⟨rb, c2, n2, rfl, hom5, hrb, hle5, hnew5, hch5, hn5⟩
 have hs3 := HSZ3.out
 have hce := HCE.out
 have hlw := hs3.2.2.1
 have hb2s := HB2.out.size
 have hsd : w2.drew.heap.size = w2.heap.size := rfl
 have hmd := HMD2.out
 have h4s := HCH4.out.size
 obtain ⟨Ub, hub, hubl, hubx⟩ := tyQ_fin tb rb hrb
 have hmore := HG4.out.moreU (U := C.U ++ Ub) (a := w4.heap.size) (b := w5.heap.size) HC3.out HLO3.out hce.2.2.2.2.2.1 hch5 (fun k hk => ⟨by rw [hce.1]; omega, by rw [hce.2.1]; omega, by rw [hce.2.2.1]; omega, by rw [HCS.out.1]; omega, by rw [hce.2.2.2.1]; omega, by rw [HCS.out.2.1]; omega, by rw [HCS.out.2.2]; omega, fun e => by
  rcases HL4.out with e2 | e2
  · rw [e2] at e; cases e
  · have := e2 k e; omega, fun x hx => by
  rw [hce.2.2.2.2.2.2.1] at hx
  rcases List.mem_append.1 hx with hx | hx
  · have := (HQ2.out x hx).2; omega
  · obtain ⟨ys, hys⟩ := HUX.out x hx
    have := (HOM3.out.old _ _ hys).2; omega⟩) (Nat.le_refl _) (Nat.le_refl _) (fun x hx => List.mem_append.2 (.inl hx)) (fun x hx => by
  rcases List.mem_append.1 hx with hx | hx
  · exact .inl hx
  · obtain ⟨⟨ys, hys⟩, cs, T, hc⟩ := hubx x hx
    cases hc1 : c1 x.1 with
    | some zs =>
      have := HMADE.out x.1 (by rw [hc1]; simp)
      exact .inr (.inl ⟨by rw [hce.2.2.2.2.1]; omega, by rw [hce.1]; omega, by rw [hce.2.1]; omega, by rw [hce.2.2.1]; omega, by rw [hce.2.2.2.1]; omega⟩)
    | none => exact .inr (.inr ⟨hnew5 x.1 (by rw [hys]; simp) hc1, ent_lt hc⟩)) (by rw [llen_app, hce.2.2.2.2.2.2.1, llen_app]; have := HFEW.out; have := HUL.out; omega)
 obtain ⟨C2, hgb, hvb, hlb, hfb, hCf, hCs, hy2, hUb2, hC2, hG2, hLo2⟩ : ∃ C2 : GCx, C2.gb = gb ∧ C2.vb = vb ∧ C2.lb = lb ∧ C2.fb = fb ∧ C2.f = f ∧ (C2.fc = fc ∧ C2.sc = sc ∧ C2.sb = sb) ∧ C2.y0 = w3.heap.size ∧ C2.U = C.U ++ Ub ∧ C2.Ok ∧ GSt C2 1 w5 ps1 (fun _ => none) id pv1 ∧ Lows C2 :=
  ⟨{ C with U := C.U ++ Ub, z0 := w4.heap.size, z1 := w5.heap.size }, hce.1, hce.2.1, hce.2.2.1, hce.2.2.2.1, hce.2.2.2.2.2.2.2, HCS.out, hce.2.2.2.2.1, rfl, hmore.1, hmore.2.1, hmore.2.2⟩
 have HSBU := Lib.hid (show ∀ x ∈ C2.U, x.1 ≠ sb from fun x hx => by
  rw [hUb2, hce.2.2.2.2.2.2.1] at hx
  rcases List.mem_append.1 hx with hx | hx
  · rcases List.mem_append.1 hx with hx | hx
    · exact HUS2.out x hx
    · obtain ⟨ys, hys⟩ := HUX.out x hx
      have := HMADE.out x.1 (by rw [hys]; simp); omega
  · obtain ⟨⟨ys, hys⟩, _⟩ := hubx x hx
    cases hc1 : c1 x.1 with
    | some zs => have := HMADE.out x.1 (by rw [hc1]; simp); omega
    | none => have := hnew5 x.1 (by rw [hys]; simp) hc1; omega)
 have HUB := Lib.hid (show llen C2.U ≤ llen Us + ta.sz + tb.sz by rw [hUb2, llen_app, hce.2.2.2.2.2.2.1, llen_app]; have := HUL.out; omega)
 have EA5 := Lib.hid (ent_chg EA4.out hch5 (by omega))
 have EB5 := Lib.hid (ent_chg EB4.out hch5 (by omega))
 have HTRB := Lib.hid (show TyQ (· ∈ C2.U) w5 rb tb by rw [hUb2]; exact tyQ_more hub fun x hx => ⟨List.mem_append.2 (.inr hx), rfl⟩)
 have HC5 := Lib.hid hC2; have HG5 := Lib.hid hG2; have HLO5 := Lib.hid hLo2; have HCH5 := Lib.hid hch5
 have HCE2 := Lib.hid (⟨hgb, hvb, hlb, hfb, hCf, hCs, hy2⟩ : C2.gb = gb ∧ C2.vb = vb ∧ C2.lb = lb ∧ C2.fb = fb ∧ C2.f = f ∧ (C2.fc = fc ∧ C2.sc = sc ∧ C2.sb = sb) ∧ C2.y0 = w3.heap.size)
 clear hs3 hce hlw hb2s hsd hmd h4s hub hubl hubx hmore hgb hvb hlb hfb hCf hCs hy2 hUb2 hC2 hG2 hLo2 hom5 hrb hle5 hnew5 hch5 hn5
 refine hK.out _ _ ⟨EA5.out, EB5.out⟩ (fun hHeld => ?_)
 clear hK K
 refine wpAnyH_ready (rs := [9]) (by kernel_rfl) (by simp) ?_
 refine AllReadyH.cons rfl (fun K hK => ?_) AllReadyH.nil
 go_simp
 have hnum := number_any C2 HC5.out 1 (by omega) ps1 (fun _ => none) id pv1 rb tb w5 HG5.out HTRB.out
 rw [HCE2.out.1] at hnum
 refine hnum.mono ?_
 rintro e w6 ⟨j, ps2, pv2, rfl, g6, ch6, l6, hp6, hps6⟩
 have hs3 := HSZ3.out
 have hce := HCE2.out
 have hlw := hs3.2.2.1
 have hnk : ∀ b, b ≠ gb ∧ b ≠ vb ∧ b ≠ fb ∧ b < w3.heap.size → ¬ NKeep C2 pv1 b := fun b hb hr => by
  rcases hr with hr | hr | hr | hr
  · exact hb.1 (hr.trans hce.1)
  · exact hb.2.1 (hr.trans hce.2.1)
  · exact hb.2.2.1 (hr.trans hce.2.2.2.1)
  · rcases HL4.out with e2 | e2
    · rw [e2] at hr; cases hr
    · have := e2 b hr; omega
 have hb2s := HB2.out.size
 have hsd : w2.drew.heap.size = w2.heap.size := rfl
 have EA6 := Lib.hid (ent_chg EA5.out ch6 (hnk _ (by omega)))
 have EB6 := Lib.hid (ent_chg EB5.out ch6 (hnk _ (by omega)))
 have HG6 := Lib.hid g6; have HCH6 := Lib.hid ch6; have HL6 := Lib.hid l6; have HP6 := Lib.hid hp6; have HPS6 := Lib.hid hps6
 clear hs3 hce hlw hnk hb2s hsd g6 ch6 l6 hp6 hps6 hnum
 refine hK.out _ _ ⟨EA6.out, EB6.out⟩ (fun hHeld => ?_)
 clear hK K
 refine wpAnyH_take (i := 10) (v := .int .i64 (i : Int)) rfl (by kernel_rfl) (by kernel_rfl) (by kernel_rfl) (fun _ _ _ h => h) (Or.inl ⟨by rfl, fun w' hSw => by go_simp⟩) hHeld ?_
 simp only [Act.put, List.getElem_toArray, List.getElem_cons_succ, List.getElem_cons_zero, List.setIfInBounds_toArray, List.set_cons_zero, List.set_cons_succ]
 refine wpAnyH_take (i := 11) (v := .int .i64 (j : Int)) rfl (by kernel_rfl) (by kernel_rfl) (by kernel_rfl) (fun _ _ _ h => h) (Or.inl ⟨by rfl, fun w' hSw => by go_simp⟩) hHeld ?_
 simp only [Act.put, List.getElem_toArray, List.getElem_cons_succ, List.getElem_cons_zero, List.setIfInBounds_toArray, List.set_cons_zero, List.set_cons_succ]
 refine wpAnyH_done (by kernel_rfl) ?_ _
 have hf2 := HCE2.out.2.2.2.2.1
 obtain ⟨s1, s2, s3, s4, s5, s6⟩ := jd_start (f := f) (kl := fun _ => none) (by rw [← HCE.out.2.2.2.2.2.2.2]; exact HP4.out) HPS4.out (by rw [← hf2]; exact HP6.out) HPS6.out
 have hjn := join_any C2 HC5.out (fun σ => Ux.Sol f σ ∧ ta.app σ = tb.app σ) i j ps2 (fun _ => none) id pv2 w6 HG6.out s1 s2 s3 (by rw [hf2]; exact s4) s5 s6
 rw [HCE2.out.1] at hjn
 have HJN := Lib.hid hjn
 have hw6 : Chg (fun k => k = gb ∨ k = vb ∨ k = lb ∨ k = fb) w w6 := by
  have hs3 := HSZ3.out
  have hb2s := HB2.out.size
  have hce := HCE.out
  have hce2 := HCE2.out
  have hsd : w2.drew.heap.size = w2.heap.size := rfl
  refine (((Chg.of_below HB3.out).then HCH4.out fun x hx hr => ?_).then HCH5.out fun x hx hr => by omega).then HCH6.out fun x hx hr => ?_
  · rcases hr with hr | hr | hr | hr
    · exact .inl (hr.trans hce.1)
    · exact .inr (.inl (hr.trans hce.2.1))
    · exact .inr (.inr (.inr (hr.trans hce.2.2.2.1)))
    · cases hr
  · rcases hr with hr | hr | hr | hr
    · exact .inl (hr.trans hce2.1)
    · exact .inr (.inl (hr.trans hce2.2.1))
    · exact .inr (.inr (.inr (hr.trans hce2.2.2.2.1)))
    · rcases HL4.out with e2 | e2
      · rw [e2] at hr; cases hr
      · have := e2 x hr; have := HB3.out.size; omega
 have HW6 := Lib.hid hw6
 have hl6 : ∀ g, pv2.ownBlock = some g → w.heap.size ≤ g := fun g hg => by
  have hs3 := HB3.out.size
  have h4 := HCH4.out.size
  have h5 := HCH5.out.size
  rcases HL6.out with e | e
  · rw [e] at hg
    rcases HL4.out with e2 | e2
    · rw [e2] at hg; cases hg
    · have := e2 g hg; omega
  · have := e g hg; omega
 have HLL6 := Lib.hid hl6
 clear s1 s2 s3 s4 s5 s6 hjn hw6 hl6 hf2 HG6 HG5 HG4 HG3 HC3 HLO3 HOM2 HOM3 HOM4 HTA HTB HTA2 HTB2 HTB3 HTB4 HTRA HTRB
 go_wp2_with fail
 refine HJN.out.mono ?_
 rintro e w7 ⟨ps7, kl7, rep, pv7, b, rfl, j1, j2, j3, j4, j5, j6⟩
 have HW7 := Lib.hid (show Chg (fun k => k = gb ∨ k = vb ∨ k = lb ∨ k = fb) w w7 from HW6.out.then j2 fun x hx hr => by
  have hce2 := HCE2.out
  rcases hr with hr | hr | hr | hr | hr
  · exact .inl (hr.trans hce2.1)
  · exact .inr (.inl (hr.trans hce2.2.1))
  · exact .inr (.inr (.inl (hr.trans hce2.2.2.1)))
  · exact .inr (.inr (.inr (hr.trans hce2.2.2.2.1)))
  · have := HLL6.out x hr; omega)
 cases b with
 | false =>
   have HJ6 := Lib.hid (j6 rfl)
   clear j1 j2 j3 j4 j5 j6
   go_wp2_with fail
   go_ret2
   exact ⟨_, false, rfl, HW7.out, fun _ => HJ6.out, fun e => by cases e⟩
 | true =>
   have HJ5 := Lib.hid (j5 rfl)
   have HG7 := Lib.hid j1
   have HST7 := Lib.hid j4
   have HL7 := Lib.hid (show ∀ g, pv7.ownBlock = some g → w.heap.size ≤ g from fun g hg => by
    rcases j3 with e | e
    · exact HLL6.out g (e ▸ hg)
    · have := e g hg; have := HW6.out.size; omega)
   clear j1 j2 j3 j4 j5 j6
   go_wp2_with fail
   have hin := inside_any C2 HC5.out HLO5.out i j i ps7 kl7 rep pv7 w7 HG7.out HJ5.out.2.2.2.1 HJ5.out.2.2.1 HST7.out
   rw [HCE2.out.1] at hin
   refine hin.mono ?_
   rintro e w8 ⟨z, ps8, kl8, pv8, L, W, lv, wv, him, hres⟩
   have HIM := Lib.hid him
   have HW8 := Lib.hid (show Chg (fun k => k = gb ∨ k = vb ∨ k = lb ∨ k = fb) w w8 from HW7.out.then him.chg fun x hx hr => by
    have hce2 := HCE2.out
    rcases hr with hr | hr | hr | hr | hr
    · exact .inl (hr.trans hce2.1)
    · exact .inr (.inl (hr.trans hce2.2.1))
    · exact .inr (.inr (.inl (hr.trans hce2.2.2.1)))
    · exact .inr (.inr (.inr (hr.trans hce2.2.2.2.1)))
    · have := HL7.out x hr; omega)
   have hlt7 : ∀ x, x < ps7.length → rep x < ps7.length := fun x hx => HG7.out.inv.rlt x hx
   have HLT7 := Lib.hid hlt7
   clear him hin hlt7
   rcases hres with ⟨rfl, hin8⟩ | ⟨rfl, hgrow, hno⟩
   · have HIN := Lib.hid hin8
     clear hin8
     go_wp2_with fail
     go_ret2
     have hce2 := HCE2.out
     have hcong8 := HIN.out.grow.cong (rep := rep) HG7.out.outr HLT7.out HJ5.out.1.1
     have hs0 : rep i ∈ L := by simpa using HIN.out.start
     refine ⟨_, true, rfl, HW8.out, (fun e => by cases e), fun _ => ⟨C2, z, ps8, kl8, rep, pv8, L, w7.heap.size, hce2.1, hce2.2.1, hce2.2.2.1, hce2.2.2.2.1, hce2.2.2.2.2.1, hce2.2.2.2.2.2.1.2.2, HSBU.out, HUB.out, HC5.out, HLO5.out, HIM.out.gst, HIM.out.lrow, HIM.out.lz.2, HW7.out.size, fun g hg => ?_, hcong8, HIN.out.ranked HIM.out.gst hcong8 rfl HJ5.out.1.2.symm, HIN.out.lok, by simpa using HIN.out.nd, Ux.all_in HIM.out.gst.inv hcong8 HIN.out.lok HIN.out.par hs0 (by show rep j ∈ L; rw [← HJ5.out.1.2]; exact hs0), fun σ => ?_⟩⟩
     · rcases HIM.out.loc with e | e
       · exact HL7.out g (e ▸ hg)
       · have := e g hg; have := HW7.out.size; omega
     · have h1 := HJ5.out.2.1 σ
       rw [hce2.2.2.2.2.1] at h1
       rw [← h1]
       exact HIN.out.grow.ks (f := f) HG7.out.outr HLT7.out σ
   · have HNO := Lib.hid hno
     have HGW := Lib.hid hgrow
     clear hno hgrow
     go_wp2_with fail
     go_ret2
     have hce2 := HCE2.out
     refine ⟨_, false, rfl, HW8.out, (fun _ σ hg => ?_), fun e => by cases e⟩
     have h1 := HJ5.out.2.1 σ
     exact HNO.out σ ((HGW.out.ks (f := C2.f) HG7.out.outr HLT7.out σ).2 (h1.2 hg))
end Go.Proofs.YtcblppojnailpaaDoor
namespace Go.Proofs.YtcblppojnailpaaDoor
open Go Go.RowKit
set_option linter.unusedVariables false
set_option linter.unusedSimpArgs false
structure GEnd (c : GCx) (w : World) (ps : List Prt) (rep : Nat → Nat) (pv : Value) : Prop where
 gcell : w.heap[c.gb]? = some (.cells #[LKF c, pv, .map (some c.vb), .map (some c.lb)] 101 (0, 0))
 own : w.ownsRow c.y0 104 5 pv ps.length (pcells ps)
 tree : ∃ d, TreeAt d ps rep
 outr : ∀ x, ps.length ≤ x → rep x = x
theorem GSt.gend {c : GCx} {e : Nat} {w : World} {ps : List Prt} {kl : LKey → Option (List Nat)} {rep : Nat → Nat} {pv : Value} (h : GSt c e w ps kl rep pv) : GEnd c w ps rep pv := ⟨h.gcell, h.own, h.tree, h.outr⟩
theorem GEnd.upd {c : GCx} {w w' : World} {ps ps' : List Prt} {rep rep' : Nat → Nat} {pv : Value} (h : GEnd c w ps rep pv) (hch : Chg (fun b => pv.ownBlock = some b) w w') (ho : w'.ownsRow c.y0 104 5 pv ps'.length (pcells ps')) (hs : Same ps ps') (ht : ∃ d, TreeAt d ps' rep') (hr : ∀ x, ps.length ≤ x → rep' x = x) : GEnd c w' ps' rep' pv :=
 ⟨ent_chg h.gcell hch (own_ne h.own h.gcell fun cs e => by injection e with _ e _; cases e), ho, ht, fun x hx => hr x (by rw [← hs.1]; exact hx)⟩
theorem GEnd.chg {c : GCx} {w w' : World} {ps : List Prt} {rep : Nat → Nat} {pv : Value} {R : Nat → Prop} (h : GEnd c w ps rep pv) (hch : Chg R w w') (h1 : ¬ R c.gb) (h2 : ∀ b, pv.ownBlock = some b → ¬ R b) : GEnd c w' ps rep pv :=
 ⟨ent_chg h.gcell hch h1, own_chg h.own hch h2, h.tree, h.outr⟩
def EndPost3 (c : GCx) (ps : List Prt) (rep : Nat → Nat) (pv : Value) (i : Nat) (w : World) (en : Ending) (w' : World) : Prop :=
 en = .returned (.int .i64 (rep i)) ∧ ∃ ps', GEnd c w' ps' rep pv ∧ Same ps ps' ∧ (∀ (j : Nat) (p p' : Prt), ps[j]? = some p → ps'[j]? = some p' → p'.st = p.st) ∧ Chg (fun b => pv.ownBlock = some b) w w'
/-- What the loop knows. -/
def EndL3 (c : GCx) (ps : List Prt) (rep : Nat → Nat) (pv : Value) (d : Nat → Nat) (i j : Nat) (w wr : World) : Prop :=
 ∃ ps', GEnd c wr ps' rep pv ∧ Same ps ps' ∧ (∀ (j : Nat) (p p' : Prt), ps[j]? = some p → ps'[j]? = some p' → p'.st = p.st) ∧ Chg (fun b => pv.ownBlock = some b) w wr ∧ TreeAt d ps' rep ∧ rep j = rep i ∧ j < ps.length
set_option maxHeartbeats 4000000 in
set_option maxRecDepth 100000 in
theorem end_any3 (c : GCx) (ps : List Prt) (rep : Nat → Nat) (pv : Value) (i : Nat) (hi : i < ps.length) (w : World) (h : GEnd c w ps rep pv) :
 Calls Tryd.prog 51 #[.pointer (some ⟨c.gb, 0, none⟩), .int .i64 i] w (EndPost3 c ps rep pv i w) := by
 obtain ⟨pp, pc, rfl⟩ := own_slice h.own
 obtain ⟨pb, cur0, rfl, hpb, _⟩ := own_open h.own (by omega)
 obtain ⟨d, hd⟩ := h.tree
 have HL0 : Hid (EndL3 c ps rep (.slice (some ⟨pb, 0, none⟩) ps.length pc) d i i w w) := Lib.hid ⟨ps, h, .refl ps, fun j p p' h1 h2 => by rw [h1] at h2; injection h2 with h2; rw [h2], .refl _ _, hd, rfl, hi⟩
 have HG := Lib.hid h
 clear h hd
 go_enter Tryd.func51, Tryd.ntmps51
 go_wp2_with fail
 go_loopg [1] (d i) (fun k v1 wr => ∃ j : Nat, v1 = .int .i64 j ∧ Hid (EndL3 c ps rep (.slice (some ⟨pb, 0, none⟩) ps.length pc) d i j w wr ∧ d j ≤ k))
 case atStart => exact ⟨i, rfl, Lib.hid ⟨HL0.out, Nat.le_refl _⟩⟩
 case round =>
  clear HL0
  obtain ⟨j, rfl, HR⟩ := hrel
  obtain ⟨⟨ps', k1, k2, k3, k4, k5, k6, k7⟩, hdk⟩ := HR.out
  have hlen := k2.1
  obtain ⟨p, hp⟩ : ∃ p, ps'[j]? = some p := ⟨_, List.getElem?_eq_getElem (by omega)⟩
  obtain ⟨t1, t2, t3, t4⟩ := k5 j p hp
  obtain ⟨pn, hpn⟩ : ∃ pn, ps'[p.tt]? = some pn := ⟨_, List.getElem?_eq_getElem t1⟩
  have ho := k1.own
  rw [hlen] at ho
  obtain ⟨pb', cur, hpe, _, hpl, hk2, hk3, hge, hcell⟩ := own_open ho (by omega)
  injection hpe with hpe; injection hpe with hpe _ _; subst hpe
  have g1 := ent_cell k1.gcell 1 _ rfl
  have x3 := ent_cell hge _ _ (hcell (j * 5 + 3) (.int .i64 p.tt) (by rw [pcells_at 3 hp (by decide)]; rfl))
  have z3 := ent_cell hge _ _ (hcell (p.tt * 5 + 3) (.int .i64 pn.tt) (by rw [pcells_at 3 hpn (by decide)]; rfl))
  have xf := ent_free hge
  have hj1 : (j : Int) < (ps.length : Int) := by omega
  have hj2 : (ps.length : Int) ≤ (pc : Int) := by omega
  have hj3 : (p.tt : Int) < (ps.length : Int) := by omega
  have HK := Lib.hid (⟨k1, k2, k3, k4, k5, k6, k7⟩ : GEnd c wr ps' rep (.slice (some ⟨pb, 0, none⟩) ps.length pc) ∧ _ ∧ _ ∧ _ ∧ _ ∧ _ ∧ _)
  have HP := Lib.hid (⟨hp, hpn⟩ : ps'[j]? = some p ∧ ps'[p.tt]? = some pn)
  have HT := Lib.hid (⟨t1, t2, t3, t4⟩ : _ ∧ _ ∧ _ ∧ _)
  have HDK := Lib.hid hdk
  have HO := Lib.hid ho
  have HLEN := Lib.hid hlen
  clear k1 k2 k3 k4 k5 k6 k7 hp hpn t1 t2 t3 t4 hdk ho hge hcell hlen HR hk2
  by_cases hjt : p.tt = j
  · have hb : ((p.tt : Int) != (j : Int)) = false := by simp [hjt]
    have HJT := Lib.hid hjt
    clear hjt
    go_wp2_with fail
    go_ret
    obtain ⟨k1, k2, k3, k4, k5, k6, k7⟩ := HK.out
    refine ⟨?_, ps', k1, k2, k3, k4⟩
    have := HT.out.2.2.2.2 HJT.out
    rw [← k6, this]
    rfl
  · have hb : ((p.tt : Int) != (j : Int)) = true := by simp; omega
    have HJT := Lib.hid hjt
    clear hjt
    go_wp2_with fail
    go_region
    clear g1 x3 z3 xf
    go_wp2_with fail
    go_roundg (d p.tt)
    case measure => have := HT.out.2.1 HJT.out; have := HDK.out; omega
    case rel =>
     obtain ⟨k1, k2, k3, k4, k5, k6, k7⟩ := HK.out
     obtain ⟨p1, p2⟩ := HP.out
     obtain ⟨t1, t2, t3, t4⟩ := HT.out
     have hlen := HLEN.out
     have hjlt := (List.getElem?_eq_some_iff.1 p1).1
     obtain ⟨n1, n2, n3, n4⟩ := k5 _ _ p2
     have HT2 : TreeAt d (ps'.set j { p with tt := pn.tt, st := p.st }) rep := fun i q hq => by
      rw [List.length_set]
      by_cases e : j = i
      · subst e
        rw [List.getElem?_set_self hjlt] at hq; injection hq with hq; subst hq
        have hd1 := t2 HJT.out
        by_cases en : pn.tt = p.tt
        · refine ⟨n1, fun _ => by dsimp only; rw [en]; exact hd1, n3.trans t3, ⟨fun h => ?_, fun h => ?_⟩⟩
          · exact absurd (t4.1 h) HJT.out
          · dsimp only at h; rw [en] at h; exact absurd h HJT.out
        · have hd2 := n2 en
          refine ⟨n1, fun _ => by dsimp only; omega, n3.trans t3, ⟨fun h => ?_, fun h => ?_⟩⟩
          · exact absurd (t4.1 h) HJT.out
          · dsimp only at h; rw [h] at hd2; omega
      · rw [List.getElem?_set_ne e] at hq; exact k5 i q hq
     refine ⟨p.tt, rfl, Lib.hid ⟨⟨ps'.set j { p with tt := pn.tt, st := p.st }, ?_, k2.trans (Same.set p1 _ _), fun i q q' h1 h2 => ?_, ?_, ?_, t3.trans k6, by omega⟩, Nat.le_refl _⟩⟩
     · have hst := (HO.out.stored (j * 5 + 3) (.int .i64 pn.tt)).1.drew
       rw [pcells_set (fun q => { q with tt := pn.tt, st := q.st }) 3 (.int .i64 pn.tt) (by decide) (fun q => rfl) p1] at hst
       have hch : Chg (fun b => (Value.slice (some ⟨pb, 0, none⟩) ps.length pc).ownBlock = some b) wr (wr.setCell ⟨pb, j * 5 + 3, none⟩ (.int .i64 pn.tt)).drew := (Chg.set (R := fun b => (Value.slice (some ⟨pb, 0, none⟩) ps.length pc).ownBlock = some b) (p := ⟨pb, j * 5 + 3, none⟩) rfl _).trans (.drew _)
       refine k1.upd hch (by rw [List.length_set, hlen]; exact hst) (Same.set p1 _ _) ⟨d, fun i q hq => ?_⟩ k1.outr
       exact HT2 i q hq
     · have h3 := h2
       by_cases e : j = i
       · subst e
         rw [List.getElem?_set_self hjlt] at h3; injection h3 with h3
         rw [← h3]; show p.st = q.st; exact k3 j q p h1 p1
       · rw [List.getElem?_set_ne e] at h3; exact k3 _ _ _ h1 h3
     · exact k4.trans ((Chg.set (R := fun b => (Value.slice (some ⟨pb, 0, none⟩) ps.length pc).ownBlock = some b) (p := ⟨pb, j * 5 + 3, none⟩) rfl _).trans (.drew _))
     · exact fun i q hq => HT2 i q hq
end Go.Proofs.YtcblppojnailpaaDoor
namespace Go.Proofs.YtcblppojnailpaaDoor
open Go Go.RowKit
set_option linter.unusedVariables false
set_option linter.unusedSimpArgs false
open Classical in
/-- What the first k parts tell. -/
noncomputable def told (f : Ux.Map) (g : Ux.Gr) : Nat → Ux.Map
 | 0 => f
 | k + 1 => fun n => if g.D k = .v n ∧ g.rep k ≠ k then some (g.D (g.rep k)) else told f g k n
theorem told_yes {f : Ux.Map} {g : Ux.Gr} {k n : Nat} (h : g.D k = .v n ∧ g.rep k ≠ k) : told f g (k + 1) n = some (g.D (g.rep k)) := by
 rw [told]; exact if_pos h
theorem told_no {f : Ux.Map} {g : Ux.Gr} {k n : Nat} (h : ¬ (g.D k = .v n ∧ g.rep k ≠ k)) : told f g (k + 1) n = told f g k n := by
 rw [told]; exact if_neg h
theorem told_some {f : Ux.Map} {g : Ux.Gr} : ∀ (k n : Nat) (t : Ux.Ty), told f g k n = some t → f n = some t ∨ ∃ i, i < k ∧ g.D i = .v n ∧ g.rep i ≠ i ∧ t = g.D (g.rep i)
 | 0, n, t, h => .inl h
 | k + 1, n, t, h => by
   by_cases e : g.D k = .v n ∧ g.rep k ≠ k
   · rw [told_yes e] at h; injection h with h
     exact .inr ⟨k, Nat.lt_succ_self _, e.1, e.2, h.symm⟩
   · rw [told_no e] at h
     exact (told_some k n t h).imp id fun ⟨i, a, b⟩ => ⟨i, Nat.lt_succ_of_lt a, b⟩
theorem told_tells {f : Ux.Map} {g : Ux.Gr} (hg : Ux.GInv f g) : Ux.Tells f g (told f g g.n) := by
 have key : ∀ k, k ≤ g.n → (∀ n t, f n = some t → told f g k n = some t) ∧ ∀ i, i < k → ∀ n, g.D i = .v n → g.rep i ≠ i → told f g k n = some (g.D (g.rep i)) := by
  intro k
  induction k with
  | zero => exact fun _ => ⟨fun n t h => h, fun i hi => by omega⟩
  | succ k ih =>
    intro hk
    obtain ⟨a, b⟩ := ih (by omega)
    refine ⟨fun n t h => ?_, fun i hi n hD hr => ?_⟩
    · by_cases e : g.D k = .v n ∧ g.rep k ≠ k
      · have := hg.free k (by omega) n e.1; rw [h] at this; cases this
      · rw [told_no e]; exact a n t h
    · by_cases e : g.D k = .v n ∧ g.rep k ≠ k
      · have := hg.uniq k i (by omega) (by omega) n e.1 hD
        rw [told_yes e, this]
      · rw [told_no e]
        refine b i (Nat.lt_of_le_of_ne (Nat.le_of_lt_succ hi) fun e2 => ?_) n hD hr
        subst e2; exact e ⟨hD, hr⟩
 obtain ⟨a, b⟩ := key g.n (Nat.le_refl _)
 exact ⟨a, b, fun n t h => told_some g.n n t h⟩
theorem told_skip {f : Ux.Map} {g : Ux.Gr} {k : Nat} (h : ∀ n, g.D k = .v n → g.rep k = k) : told f g (k + 1) = told f g k := by
 funext n
 exact told_no fun e => e.2 (h n e.1)
set_option maxRecDepth 10000 in
theorem SubAt.set {Q : LKey → Prop} {w : World} {b : Nat} {f : Ux.Map} (h : SubAt Q w b f) (n : Nat) (v : Value) (t : Ux.Ty) (ht : TyQ Q w v t) (hq : ∀ x, Q x → x.1 ≠ b ∧ x.1 < w.heap.size) :
 ∃ w', (Instr.mapUpdate 26 (.map (some b)) (.int .i64 (n : Int)) v).run Tryd.prog w = .ok () w' ∧ SubAt Q w' b (fun m => if m = n then some t else f m) ∧ Chg (· = b) w w' := by
 obtain ⟨L, h1, h2⟩ := h
 obtain ⟨w', hup, hmk, hgr⟩ := h1.update lawI Tryd.underlying26 (n : Int) trivial v (fun _ _ _ _ _ => trivial)
 have hch : Chg (· = b) w w' := Chg.grown hgr fun k hk => (Option.some.inj hk).symm
 have hqq : ∀ x, Q x → w'.heap[x.1]? = w.heap[x.1]? := fun x hx => hch.block _ (hq x hx).2 (hq x hx).1
 refine ⟨w', hup, ⟨_, hmk, fun m => ⟨fun hm => ?_, fun t' ht' => ?_⟩⟩, hch⟩
 · rw [lookL_set]
   by_cases e : m = n
   · dsimp only at hm; rw [if_pos e] at hm; cases hm
   · rw [if_neg (by omega)]; dsimp only at hm; rw [if_neg e] at hm; exact (h2 m).1 hm
 · rw [lookL_set]
   dsimp only at ht'
   by_cases e : m = n
   · rw [if_pos e] at ht'; injection ht' with ht'; subst ht'
     exact ⟨v, by rw [if_pos (by omega)], tyQ_keep ht hqq⟩
   · rw [if_neg e] at ht'
     obtain ⟨u, a, b⟩ := (h2 m).2 t' ht'
     exact ⟨u, by rw [if_neg (by omega)]; exact a, tyQ_keep b hqq⟩
theorem told_set {f : Ux.Map} {g : Ux.Gr} {k n : Nat} (h : g.D k = .v n) (hr : g.rep k ≠ k) : told f g (k + 1) = fun m => if m = n then some (g.D (g.rep k)) else told f g k m := by
 funext m
 by_cases e : m = n
 · rw [if_pos e, told_yes ⟨by rw [h, e], hr⟩]
 · rw [if_neg e, told_no fun e2 => e (by rw [h] at e2; injection e2.1 with e3; exact e3.symm)]
end Go.Proofs.YtcblppojnailpaaDoor
namespace Go.Proofs.YtcblppojnailpaaDoor
open Go Go.RowKit
set_option linter.unusedVariables false
set_option linter.unusedSimpArgs false
set_option maxRecDepth 10000 in
theorem map_some (b : Nat) (w : World) : (binOp .eql 26 (.map (some b)) (.map none)).run Tryd.prog w = .ok (.bool false) w := by first | rfl | (simp [binOp, go_sem, Tryd.underlying26]; done) | kernel_rfl
theorem tl_d {m k : Nat} (h : m ≤ k) (hn : ¬ m = k) : k - ((m : Int) + 1).toNat < k - ((m : Int)).toNat := by omega
/-- What the loop knows. -/
def TL (c : GCx) (ps : List Prt) (kl : LKey → Option (List Nat)) (rep : Nat → Nat) (pv : Value) (w0 : World) (k : Nat) (wr : World) : Prop :=
 ∃ ps', GEnd c wr ps' rep pv ∧ Same ps ps' ∧ SubAt (· ∈ c.U) wr c.sb (told c.f (mkGr ps kl rep) k) ∧ Chg (fun b => b = c.sb ∨ pv.ownBlock = some b) w0 wr
theorem TL.below {c : GCx} (hC : c.Ok) {e : Nat} {ps : List Prt} {kl : LKey → Option (List Nat)} {rep : Nat → Nat} {pv : Value} {w0 w w' : World} {k : Nat} (h : TL c ps kl rep pv w0 k w) (hG : GSt c e w0 ps kl rep pv) (hb : Below w.heap.size w w') : TL c ps kl rep pv w0 k w' := by
 obtain ⟨ps', a1, a2, a3, a4⟩ := h
 have a3' := a3
 obtain ⟨L, b1, _⟩ := a3
 have hs := a4.size
 exact ⟨ps', a1.chg (R := fun _ => False) (.of_below hb) id fun _ _ => id, a2, a3'.keep (hb.block _ b1.lt) fun x hx => hb.block _ (by have := (hG.look.q x hx).1; omega), a4.trans (.of_below hb)⟩
set_option maxHeartbeats 4000000 in
set_option maxRecDepth 100000 in
theorem tell_any (c : GCx) (hC : c.Ok) (e : Nat) (ps : List Prt) (kl : LKey → Option (List Nat)) (rep : Nat → Nat) (pv : Value) (w : World) (he : e ≤ 100) (h : GSt c e w ps kl rep pv) (hsb : ∀ x ∈ c.U, x.1 ≠ c.sb) :
 Calls Tryd.prog 33 #[.map (some c.sb), .pointer (some ⟨c.gb, 0, none⟩)] w (fun en w' => en = .returned (.int .i64 0) ∧ SubAt (· ∈ c.U) w' c.sb (told c.f (mkGr ps kl rep) ps.length) ∧ Chg (fun b => b = c.sb ∨ pv.ownBlock = some b) w w') := by
 have hown := h.own
 obtain ⟨pp, pc, rfl⟩ := own_slice hown
 have HL0 : Hid (TL c ps kl rep (.slice pp ps.length pc) w 0 w) := Lib.hid ⟨ps, h.gend, .refl ps, h.look.sub, .refl _ _⟩
 have HE := Lib.hid he
 have HG := Lib.hid h
 have HSB := Lib.hid hsb
 have g1 := ent_cell h.gcell 1 _ rfl
 clear h hsb hown he
 go_enter Tryd.func33, Tryd.ntmps33
 go_upto_region 2 with fail
 go_loopw [12] (fun iv wr => ∃ k : Nat, iv = .int .i64 (k : Int) ∧ k ≤ ps.length ∧ Hid (TL c ps kl rep (.slice pp ps.length pc) w k wr)) (fun iv _ => ps.length - (intOf iv).toNat)
 case atStart => exact ⟨0, rfl, Nat.zero_le _, HL0⟩
 case round =>
  clear HL0 g1
  obtain ⟨k, rfl, hk, HR⟩ := hrel
  by_cases hkl : k = ps.length
  · subst hkl
    go_wp2_with fail
    go_ret
    obtain ⟨ps', k1, k2, k3, k4⟩ := HR.out
    exact ⟨rfl, k3, k4⟩
  · obtain ⟨ps', k1, k2, k3, k4⟩ := HR.out
    have hlen := k2.1
    obtain ⟨p, hp⟩ : ∃ p, ps'[k]? = some p := ⟨_, List.getElem?_eq_getElem (by omega)⟩
    have ho := k1.own
    rw [hlen] at ho
    obtain ⟨pb, cur, rfl, hpb, hpbl, hk2, hk3, hpe, hcell⟩ := own_open ho (by omega)
    have y0 := ent_cell hpe _ _ (hcell (k * 5) (.int .i64 p.k) (by have := pcells_at 0 hp (by decide); rw [Nat.add_zero] at this; rw [this]; rfl))
    have y1 := ent_cell hpe _ _ (hcell (k * 5 + 1) (.string p.s) (by rw [pcells_at 1 hp (by decide)]; rfl))
    have y2 := ent_cell hpe _ _ (hcell (k * 5 + 2) (.slice p.q p.m p.c) (by rw [pcells_at 2 hp (by decide)]; rfl))
    have y3 := ent_cell hpe _ _ (hcell (k * 5 + 3) (.int .i64 p.tt) (by rw [pcells_at 3 hp (by decide)]; rfl))
    have y4 := ent_cell hpe _ _ (hcell (k * 5 + 4) (.int .i64 p.st) (by rw [pcells_at 4 hp (by decide)]; rfl))
    have hk1 := jq_lt hk hkl
    have hk4 : (ps.length : Int) ≤ (pc : Int) := by omega
    have HK := Lib.hid (⟨k1, k2, k3, k4⟩ : GEnd c wr ps' rep (.slice (some ⟨pb, 0, none⟩) ps.length pc) ∧ _ ∧ _ ∧ _)
    have HP := Lib.hid hp
    have HKK := Lib.hid (⟨hk, hkl⟩ : k ≤ ps.length ∧ ¬ k = ps.length)
    clear k1 k2 k3 k4 hp ho hpe hcell hlen hk hkl hk2 HR
    go_upto_region 4 with fail
    have hb1 : Below wr.heap.size wr (wr.alloc (.cells #[.int .i64 p.k, .string p.s, .slice p.q p.m p.c, .int .i64 (p.tt : Int), .int .i64 (p.st : Int)] 104)) := (Below.refl _ _).alloc (Nat.le_refl _) _
    have he1 := ent_new wr #[.int .i64 p.k, .string p.s, .slice p.q p.m p.c, .int .i64 (p.tt : Int), .int .i64 (p.st : Int)] 104
    have HB1 := Lib.hid hb1; have HE1 := Lib.hid he1
    clear hb1 he1 y0 y1 y2 y3 y4
    generalize wr.alloc (.cells #[.int .i64 p.k, .string p.s, .slice p.q p.m p.c, .int .i64 (p.tt : Int), .int .i64 (p.st : Int)] 104) = w1 at HB1 HE1 ⊢
    have y0 := ent_cell HE1.out 0 _ rfl
    have y1 := ent_cell HE1.out 1 _ rfl
    have y2 := ent_cell HE1.out 2 _ rfl
    have hw1 : wrap64 ((k : Int) + 1) = ((k + 1 : Nat) : Int) := (by have h1 := HG.out.few hC; have h2 := HE.out; have h3 := HKK.out.1; unfold wrap64; omega)
    obtain ⟨q, hq1, hq2⟩ := HK.out.2.1.back HP.out
    have hD : (mkGr ps kl rep).D k = p.D := by rw [(gr_at hq1).1, hq2]
    have hty : TyQ (· ∈ c.U) w p.ag p.D := by have := HG.out.ty q (List.mem_of_getElem? hq1); rw [hq2]; exact this
    have HTY := Lib.hid hty
    obtain ⟨d, hd⟩ := HK.out.1.tree
    have HTT := Lib.hid (hd k p HP.out).2.2.2
    have HDD := Lib.hid hD
    have HKB := Lib.hid (show TL c ps kl rep (.slice (some ⟨pb, 0, none⟩) ps.length pc) w k w1 from TL.below hC ⟨ps', HK.out.1, HK.out.2.1, HK.out.2.2.1, HK.out.2.2.2⟩ HG.out HB1.out)
    clear hq1 hq2 hD hty hd
    cases hDp : p.D with
    | a nm xs =>
      have hpk : p.k < 0 := by
       have h1 := HTY.out; rw [hDp] at h1
       obtain ⟨k', av, hk', e, hr⟩ := tyQ_a.1 h1
       simp only [Prt.ag, Value.agg.injEq, Array.mk.injEq, List.cons.injEq, Value.int.injEq] at e
       omega
      have hdc : decide ((0 : Int) ≤ p.k) = false := by simp; omega
      have HVD := Lib.hid hDp
      clear hDp hpk
      go_wp2_with fail
      refine (isVar_any p.k (.string p.s) (.slice p.q p.m p.c) w1).mono ?_
      rintro e2 w2 ⟨rfl, hb2⟩
      have HB2 := Lib.hid hb2
      clear hb2 y0 y1 y2
      go_wp2_with fail
      go_roundw
      case measure => exact tl_d HKK.out.1 HKK.out.2
      case rel => exact ⟨k + 1, rfl, jq_s HKK.out.1 HKK.out.2, Lib.hid (by have := TL.below hC HKB.out HG.out HB2.out; unfold TL at this ⊢; rw [told_skip fun n hn => by rw [HDD.out, HVD.out] at hn; cases hn]; exact this)⟩
    | v n =>
      have hpk : p.k = (n : Int) := by
       have h1 := HTY.out; rw [hDp] at h1
       obtain ⟨s', q', m1, c', e⟩ := tyQ_v.1 h1
       simp only [Prt.ag, Value.agg.injEq, Array.mk.injEq, List.cons.injEq, Value.int.injEq] at e; omega
      have hdc : decide ((0 : Int) ≤ p.k) = true := by rw [hpk]; simp
      have HVD := Lib.hid hDp
      have HPK := Lib.hid hpk
      clear hDp hpk
      have y3 := ent_cell HE1.out 3 _ rfl
      by_cases htk : p.tt = k
      · have hb3 : ((p.tt : Int) == (k : Int)) = true := by simp [htk]
        have HTK := Lib.hid htk
        clear htk
        go_wp2_with fail
        refine (isVar_any p.k (.string p.s) (.slice p.q p.m p.c) w1).mono ?_
        rintro e2 w2 ⟨rfl, hb2⟩
        have HB2 := Lib.hid hb2
        have y3 := ent_cell (ent_below HE1.out hb2) 3 _ rfl
        clear hb2 y0 y1 y2
        go_wp2_with fail
        go_roundw
        case measure => exact tl_d HKK.out.1 HKK.out.2
        case rel => exact ⟨k + 1, rfl, jq_s HKK.out.1 HKK.out.2, Lib.hid (by have := TL.below hC HKB.out HG.out HB2.out; unfold TL at this ⊢; rw [told_skip fun n hn => HTT.out.2 HTK.out]; exact this)⟩
      · have hb3 : ((p.tt : Int) == (k : Int)) = false := by simp; omega
        have HTK := Lib.hid htk
        have hms := map_some c.sb
        clear htk
        go_wp2_with fail
        refine (isVar_any p.k (.string p.s) (.slice p.q p.m p.c) w1).mono ?_
        rintro e2 w2 ⟨rfl, hb2⟩
        have HB2 := Lib.hid hb2
        have HE2 := Lib.hid (ent_below HE1.out hb2)
        have y3 := ent_cell (ent_below HE1.out hb2) 3 _ rfl
        clear hb2 y0 y1 y2
        go_upto_region 7 with fail
        obtain ⟨ps2, k1, k2, k3, k4⟩ := TL.below hC HKB.out HG.out HB2.out
        have hrl : rep k < ps.length := HG.out.inv.rlt k (Nat.lt_of_le_of_ne HKK.out.1 HKK.out.2)
        obtain ⟨pr, hpr⟩ : ∃ pr, ps2[rep k]? = some pr := ⟨_, List.getElem?_eq_getElem (by rw [k2.1]; exact hrl)⟩
        have ho := k1.own
        rw [k2.1] at ho
        obtain ⟨pb', cur', hpe', _, _, _, _, hpe2, hcell2⟩ := own_open ho (by omega)
        injection hpe' with hpe'; injection hpe' with hpe' _ _; subst hpe'
        have HR2 := Lib.hid (⟨ent_cell hpe2 _ _ (hcell2 (rep k * 5) (.int .i64 pr.k) (by have := pcells_at 0 hpr (by decide); rw [Nat.add_zero] at this; rw [this]; rfl)), ent_cell hpe2 _ _ (hcell2 (rep k * 5 + 1) (.string pr.s) (by rw [pcells_at 1 hpr (by decide)]; rfl)), ent_cell hpe2 _ _ (hcell2 (rep k * 5 + 2) (.slice pr.q pr.m pr.c) (by rw [pcells_at 2 hpr (by decide)]; rfl))⟩ : _ ∧ _ ∧ _)
        have HGE2 := Lib.hid k1
        have HSM2 := Lib.hid k2
        have HSU2 := Lib.hid k3
        have HCH2 := Lib.hid k4
        have HPR := Lib.hid hpr
        have HRL := Lib.hid hrl
        have HKL2 := Lib.hid (show k < ps2.length by rw [k2.1]; exact Nat.lt_of_le_of_ne HKK.out.1 HKK.out.2)
        have HGC := Lib.hid k1.gcell
        have HGN := Lib.hid (show ¬ (c.gb = c.sb ∨ (Value.slice (some ⟨pb, 0, none⟩) ps.length pc).ownBlock = some c.gb) from fun e => e.elim hC.neg.2.2.2.1 (own_ne k1.own k1.gcell fun cs e => by injection e with _ e _; cases e))
        have HBX := Lib.hid (show ¬ (wr.heap.size = c.sb ∨ (Value.slice (some ⟨pb, 0, none⟩) ps.length pc).ownBlock = some wr.heap.size) from fun e => by
         have h1 := HG.out.look.low; have h2 := HG.out.own.lt
         have h3 := HK.out.2.2.2.size
         rcases e with e | e
         · omega
         · have := (h2 _ e).2; omega)
        have hrk : (rep k : Int) < (ps.length : Int) := by omega
        clear k1 k2 k3 k4 hpr hrl ho hpe2 hcell2 y3
        refine wp_region_held_drew (S := fun (u : World) => Chg (fun b => b = c.sb ∨ (Value.slice (some ⟨pb, 0, none⟩) ps.length pc).ownBlock = some b) w2 u ∧ u.cell? ⟨pb, rep k * 5, none⟩ = some (.int .i64 pr.k) ∧ u.cell? ⟨pb, rep k * 5 + 1, none⟩ = some (.string pr.s) ∧ u.cell? ⟨pb, rep k * 5 + 2, none⟩ = some (.slice pr.q pr.m pr.c)) (by kernel_rfl) (⟨Chg.drew _, HR2.out.1, HR2.out.2.1, HR2.out.2.2⟩) (fun hHeld => ?_)
        refine wpAnyH_take (i := 0) (v := .map (some c.sb)) rfl (by kernel_rfl) (by kernel_rfl) (by kernel_rfl) (fun _ _ _ h => h) (Or.inl ⟨by rfl, fun w' hSw => by go_simp⟩) hHeld ?_
        refine wpAnyH_take (i := 1) (v := .pointer (some ⟨wr.heap.size, 0, none⟩)) rfl (by kernel_rfl) (by kernel_rfl) (by kernel_rfl) (fun _ _ _ h => h) (Or.inl ⟨by rfl, fun w' hSw => by go_simp⟩) hHeld ?_
        refine wpAnyH_take (i := 2) (v := .pointer (some ⟨wr.heap.size, 0, none⟩)) rfl (by kernel_rfl) (by kernel_rfl) (by kernel_rfl) (fun _ _ _ h => h) (Or.inl ⟨by rfl, fun w' hSw => by go_simp⟩) hHeld ?_
        refine wpAnyH_take (i := 3) (v := .int .i64 (n : Int)) rfl (by kernel_rfl) (by kernel_rfl) (by kernel_rfl) (fun _ _ _ h => h) (Or.inl ⟨by rfl, fun w' hSw => by have h := ent_cell (ent_chg HE2.out hSw.1 HBX.out) 0 _ rfl; have h' := HPK.out; go_simp⟩) hHeld ?_
        refine wpAnyH_take (i := 4) (v := .pointer (some ⟨c.gb, 0, none⟩)) rfl (by kernel_rfl) (by kernel_rfl) (by kernel_rfl) (fun _ _ _ h => h) (Or.inl ⟨by rfl, fun w' hSw => by go_simp⟩) hHeld ?_
        refine wpAnyH_take (i := 5) (v := .pointer (some ⟨c.gb, 0, none⟩)) rfl (by kernel_rfl) (by kernel_rfl) (by kernel_rfl) (fun _ _ _ h => h) (Or.inl ⟨by rfl, fun w' hSw => by go_simp⟩) hHeld ?_
        refine wpAnyH_take (i := 6) (v := .pointer (some ⟨c.gb, 1, none⟩)) rfl (by kernel_rfl) (by kernel_rfl) (by kernel_rfl) (fun _ _ _ h => h) (Or.inl ⟨by rfl, fun w' hSw => by go_simp⟩) hHeld ?_
        refine wpAnyH_take (i := 7) (v := .slice (some ⟨pb, 0, none⟩) ps.length pc) rfl (by kernel_rfl) (by kernel_rfl) (by kernel_rfl) (fun _ _ _ h => h) (Or.inl ⟨by rfl, fun w' hSw => by have h := ent_cell (ent_chg HGC.out hSw.1 HGN.out) 1 _ rfl; go_simp⟩) hHeld ?_
        refine wpAnyH_take (i := 8) (v := .pointer (some ⟨c.gb, 0, none⟩)) rfl (by kernel_rfl) (by kernel_rfl) (by kernel_rfl) (fun _ _ _ h => h) (Or.inl ⟨by rfl, fun w' hSw => by go_simp⟩) hHeld ?_
        refine wpAnyH_take (i := 9) (v := .int .i64 (k : Int)) rfl (by kernel_rfl) (by kernel_rfl) (by kernel_rfl) (fun _ _ _ h => h) (Or.inl ⟨by rfl, fun w' hSw => by go_simp⟩) hHeld ?_
        try simp only [Act.put, List.getElem_toArray, List.getElem_cons_succ, List.getElem_cons_zero, List.setIfInBounds_toArray, List.set_cons_zero, List.set_cons_succ]
        refine wpAnyH_ready (rs := [10]) (by kernel_rfl) (by simp) ?_
        refine AllReadyH.cons rfl (fun K hK => ?_) AllReadyH.nil
        go_simp
        refine (end_any3 c ps2 rep _ k HKL2.out w2.drew (HGE2.out.chg (R := fun _ => False) (.drew _) id fun _ _ => id)).mono ?_
        rintro e3 w3 ⟨rfl, ps3, g3, s3, st3, ch3⟩
        obtain ⟨a3, b3, hp3⟩ := s3.2 (rep k) pr HPR.out
        have ho3 := g3.own
        rw [s3.1, HSM2.out.1] at ho3
        obtain ⟨pb', cur', hpe', _, _, _, _, hpe2, hcell2⟩ := own_open ho3 (by have := HRL.out; omega)
        injection hpe' with hpe'; injection hpe' with hpe' _ _; subst hpe'
        have HR3 := Lib.hid (⟨ent_cell hpe2 _ _ (hcell2 (rep k * 5) (.int .i64 pr.k) (by have := pcells_at 0 hp3 (by decide); rw [Nat.add_zero] at this; rw [this]; rfl)), ent_cell hpe2 _ _ (hcell2 (rep k * 5 + 1) (.string pr.s) (by rw [pcells_at 1 hp3 (by decide)]; rfl)), ent_cell hpe2 _ _ (hcell2 (rep k * 5 + 2) (.slice pr.q pr.m pr.c) (by rw [pcells_at 2 hp3 (by decide)]; rfl))⟩ : _ ∧ _ ∧ _)
        have HCH3 := Lib.hid ((Chg.drew (R := fun b => (Value.slice (some ⟨pb, 0, none⟩) ps.length pc).ownBlock = some b) w2).trans ch3)
        have HGE3 := Lib.hid g3; have HSM3 := Lib.hid (HSM2.out.trans s3)
        clear g3 s3 st3 ch3 hp3 ho3 hpe2 hcell2
        refine hK.out _ _ ⟨HCH3.out.mono fun _ _ h => .inr h, HR3.out.1, HR3.out.2.1, HR3.out.2.2⟩ (fun hHeld => ?_)
        clear hK K
        refine wpAnyH_take (i := 11) (v := .pointer (some ⟨pb, rep k * 5, none⟩)) rfl (by kernel_rfl) (by kernel_rfl) (by kernel_rfl) (fun _ _ _ h => h) (Or.inl ⟨by rfl, fun w' hSw => by go_simp⟩) hHeld ?_
        simp only [Act.put, List.getElem_toArray, List.getElem_cons_succ, List.getElem_cons_zero, List.setIfInBounds_toArray, List.set_cons_zero, List.set_cons_succ]
        refine wpAnyH_take (i := 12) (v := .pointer (some ⟨pb, rep k * 5, none⟩)) rfl (by kernel_rfl) (by kernel_rfl) (by kernel_rfl) (fun _ _ _ h => h) (Or.inl ⟨by rfl, fun w' hSw => by go_simp⟩) hHeld ?_
        simp only [Act.put, List.getElem_toArray, List.getElem_cons_succ, List.getElem_cons_zero, List.setIfInBounds_toArray, List.set_cons_zero, List.set_cons_succ]
        refine wpAnyH_take (i := 13) (v := .agg #[.int .i64 pr.k, .string pr.s, .slice pr.q pr.m pr.c]) rfl (by kernel_rfl) (by kernel_rfl) (by kernel_rfl) (fun _ _ _ h => h) (Or.inl ⟨by rfl, fun w' hSw => by have t0 := hSw.2.1; have t1 := hSw.2.2.1; have t2 := hSw.2.2.2; go_simp⟩) hHeld ?_
        simp only [Act.put, List.getElem_toArray, List.getElem_cons_succ, List.getElem_cons_zero, List.setIfInBounds_toArray, List.set_cons_zero, List.set_cons_succ]
        refine wpAnyH_ready (rs := [14]) (by kernel_rfl) (by simp) ?_
        refine AllReadyH.cons rfl (fun K hK => ?_) AllReadyH.nil
        have hlow := HG.out.look.low
        have hown := HG.out.own.lt
        have hl7 := hC.low.2.2.2.2.2.2
        have hnU : ∀ x, x ∈ c.U → x.1 ≠ c.sb ∧ x.1 < w3.heap.size := fun x hx => by have h1 := HSB.out x hx; have h2 := (HG.out.look.q x hx).1; have h3 := HCH2.out.size; have h4 := HCH3.out.size; exact ⟨h1, by omega⟩
        have hnS : ¬ (Value.slice (some ⟨pb, 0, none⟩) ps.length pc).ownBlock = some c.sb := fun e => by have := (hown _ e).1; omega
        have hnV : ∀ x, x ∈ c.U → ¬ (Value.slice (some ⟨pb, 0, none⟩) ps.length pc).ownBlock = some x.1 := fun x hx e => HG.out.outl hC (hC.u x hx).1 e
        have hsu3 := HSU2.out.keep (HCH3.out.block _ (by have := HCH2.out.size; omega) hnS) fun x hx => HCH3.out.block _ (by have h2 := (HG.out.look.q x hx).1; have h3 := HCH2.out.size; omega) (hnV x hx)
        obtain ⟨q4, hq4, he4⟩ := HSM2.out.back HPR.out
        have hty4 : TyQ (· ∈ c.U) w3 (.agg #[.int .i64 pr.k, .string pr.s, .slice pr.q pr.m pr.c]) ((mkGr ps kl rep).D (rep k)) := by
         have h1 := HG.out.ty q4 (List.mem_of_getElem? hq4)
         have h2 : (mkGr ps kl rep).D (rep k) = q4.D := (gr_at hq4).1
         rw [h2]
         have h3 : TyQ (· ∈ c.U) w (.agg #[.int .i64 pr.k, .string pr.s, .slice pr.q pr.m pr.c]) q4.D := by rw [he4]; exact h1
         exact tyQ_keep h3 fun x hx => (HCH3.out.block _ (by have h2 := (HG.out.look.q x hx).1; have h3 := HCH2.out.size; omega) (hnV x hx)).trans (HCH2.out.block _ (HG.out.look.q x hx).1 fun e => e.elim (HSB.out x hx) (hnV x hx))
        obtain ⟨w4, hup, hsub, hch⟩ := hsu3.set n _ _ hty4 hnU
        have HSU4 := Lib.hid hsub; have HCH4 := Lib.hid hch
        have HGE4 := Lib.hid (HGE3.out.chg hch (fun e => hC.neg.2.2.2.1 e) fun b hb e => hnS (e ▸ hb))
        have hblk : ∀ o, w4.cell? ⟨pb, o, none⟩ = w3.cell? ⟨pb, o, none⟩ := fun o => by
         have := hch.block pb (by have := (HGE3.out.own.lt pb rfl).2; exact this) fun e => hnS (by rw [← e]; rfl)
         simp only [World.cell?, this]
        have HCL4 := Lib.hid (⟨(hblk _).trans HR3.out.1, (hblk _).trans HR3.out.2.1, (hblk _).trans HR3.out.2.2⟩ : _ ∧ _ ∧ _)
        clear hlow hown hl7 hnU hnS hnV hsu3 hq4 he4 hty4 hsub hch hblk
        go_simp
        refine hK.out _ _ ⟨(HCH3.out.mono fun _ _ h => .inr h).trans (HCH4.out.mono fun _ _ h => .inl h), HCL4.out.1, HCL4.out.2.1, HCL4.out.2.2⟩ (fun hHeld => ?_)
        clear hK K
        refine wpAnyH_done (by kernel_rfl) ?_ _
        go_wp2_with fail
        go_roundw
        case measure => exact tl_d HKK.out.1 HKK.out.2
        case rel => exact ⟨k + 1, rfl, jq_s HKK.out.1 HKK.out.2, Lib.hid ⟨_, HGE4.out, HSM3.out, by rw [told_set (by rw [HDD.out]; exact HVD.out) fun e => HTK.out (HTT.out.1 e)]; exact HSU4.out, HCH2.out.trans ((HCH3.out.mono fun _ _ h => .inr h).trans (HCH4.out.mono fun _ _ h => .inl h))⟩⟩
end Go.Proofs.YtcblppojnailpaaDoor
namespace Go.Proofs.YtcblppojnailpaaDoor
open Go Go.RowKit
set_option linter.unusedVariables false
set_option linter.unusedSimpArgs false
/-- All lists of what it tells, where its variables lie below M. -/
theorem SubP.atM {M : Nat} {w : World} {b : Nat} {f : Ux.Map} (h : SubP w b f) {S : Nat} (hd : ∀ n, f n ≠ none → n < M) (hS : ∀ n t, f n = some t → t.sz ≤ S) : ∃ U : List LKey, SubAt (· ∈ U) w b f ∧ llen U ≤ M * S ∧ ∀ x ∈ U, ∃ cs T, w.heap[x.1]? = some (.cells cs T (0, 0)) := by
 obtain ⟨L, h1, h2⟩ := h
 have key : ∀ M, ∃ U : List LKey, (∀ n t, n < M → f n = some t → ∃ v, lookL (n : Int) L = some v ∧ TyQ (· ∈ U) w v t) ∧ llen U ≤ M * S ∧ ∀ x ∈ U, ∃ cs T, w.heap[x.1]? = some (.cells cs T (0, 0)) := by
  intro M
  induction M with
  | zero => exact ⟨[], fun n t hn => by omega, by simp [llen], fun x hx => by cases hx⟩
  | succ M ih =>
    obtain ⟨U, u1, u2, u3⟩ := ih
    have hm : (M + 1) * S = M * S + S := by rw [Nat.add_mul]; omega
    cases hf : f M with
    | none => exact ⟨U, fun n t hn hnt => u1 n t (Nat.lt_of_le_of_ne (by omega) fun e => by rw [e, hf] at hnt; cases hnt) hnt, by omega, u3⟩
    | some t =>
      obtain ⟨v, a, b⟩ := (h2 M).2 t hf
      obtain ⟨V, v1, v2, v3⟩ := tyP_Q t v b
      refine ⟨V ++ U, fun n t' hn hnt => ?_, ?_, fun x hx => (List.mem_append.1 hx).elim (v3 x) (u3 x)⟩
      · by_cases e : n = M
        · subst e
          rw [hf] at hnt; injection hnt with hnt; subst hnt
          exact ⟨v, a, tyQ_more v1 fun x hx => ⟨List.mem_append.2 (.inl hx), rfl⟩⟩
        · obtain ⟨v', a', b'⟩ := u1 n t' (by omega) hnt
          exact ⟨v', a', tyQ_more b' fun x hx => ⟨List.mem_append.2 (.inr hx), rfl⟩⟩
      · rw [llen_app]; have := hS M t hf; omega
 obtain ⟨U, u1, u2, u3⟩ := key M
 exact ⟨U, ⟨L, h1, fun n => ⟨(h2 n).1, fun t ht => u1 n t (hd n (by rw [ht]; simp)) ht⟩⟩, u2, u3⟩
/-- What Unify answers. -/
def UniPost (f : Ux.Map) (sb : Nat) (Us : List LKey) (ta tb : Ux.Ty) (w : World) (e : Ending) (w' : World) : Prop :=
 Chg (· = sb) w w' ∧ ((e = .returned (.int .i64 0) ∧ ∃ (f' : Ux.Map) (U' : List LKey), Ux.Fine f' ∧ (∀ σ, Ux.Sol f' σ ↔ (Ux.Sol f σ ∧ ta.app σ = tb.app σ)) ∧ SubAt (· ∈ U') w' sb f' ∧ llen U' ≤ llen Us + ta.sz + tb.sz ∧ ∀ x ∈ U', x.1 < w'.heap.size ∧ x.1 ≠ sb) ∨ (e = .returned (.int .i64 5) ∧ (∀ σ, ¬ (Ux.Sol f σ ∧ ta.app σ = tb.app σ)) ∧ SubAt (· ∈ Us) w' sb f))
set_option maxHeartbeats 4000000 in
set_option maxRecDepth 100000 in
theorem sUnify_any (f : Ux.Map) (hf : Ux.Fine f) (sb : Nat) (Us : List LKey) (ta tb : Ux.Ty) (va vB : Value) (w : World) (hs : SubAt (· ∈ Us) w sb f) (hus : ∀ x ∈ Us, x.1 < w.heap.size ∧ x.1 ≠ sb) (hd : ∀ n, f n ≠ none → n < 1000000) (hta : TyQ (· ∈ Us) w va ta) (htb : TyQ (· ∈ Us) w vB tb) (hfew : llen Us + ta.sz + tb.sz ≤ 100000) :
 Calls Tryd.prog 13 #[.map (some sb), va, vB] w (UniPost f sb Us ta tb w) := by
 obtain ⟨ka, sa, qa, ma, ca, rfl⟩ := tyQ_sh hta
 obtain ⟨kb, sb', qb, mb', cb, rfl⟩ := tyQ_sh htb
 have HS := Lib.hid hs; have HUS := Lib.hid hus; have HTA := Lib.hid hta; have HTB := Lib.hid htb; have HFEW := Lib.hid hfew; have HD := Lib.hid hd
 clear hs hus hta htb hfew hd
 go_enter Tryd.func13, Tryd.ntmps13
 have HB1 := Lib.hid (show Below w.heap.size w ((w.alloc (.cells #[.int .i64 ka, .string sa, .slice qa ma ca] 30)).alloc (.cells #[.int .i64 kb, .string sb', .slice qb mb' cb] 30)) from ((Below.refl _ _).alloc (Nat.le_refl _) _).alloc (by simp) _)
 have EA := Lib.hid (ent_alloc (ent_new w #[.int .i64 ka, .string sa, .slice qa ma ca] 30) (.cells #[.int .i64 kb, .string sb', .slice qb mb' cb] 30))
 have EB := Lib.hid (ent_new (w.alloc (.cells #[.int .i64 ka, .string sa, .slice qa ma ca] 30)) #[.int .i64 kb, .string sb', .slice qb mb' cb] 30)
 rw [show (w.alloc (.cells #[.int .i64 ka, .string sa, .slice qa ma ca] 30)).heap.size = w.heap.size + 1 by simp] at EB
 go_upto_region 1 with fail
 generalize (w.alloc (.cells #[.int .i64 ka, .string sa, .slice qa ma ca] 30)).alloc (.cells #[.int .i64 kb, .string sb', .slice qb mb' cb] 30) = w1 at EA EB HB1 ⊢
 have hsl : sb < w.heap.size := by obtain ⟨L, h1, _⟩ := HS.out; exact h1.lt
 have hs1 := HS.out.keep (HB1.out.block _ hsl) fun x hx => HB1.out.block _ (HUS.out x hx).1
 have HSL := Lib.hid hsl
 clear hsl
 have hgc := graph_any (· ∈ Us) f sb w1 hs1 (fun x hx => by have := (HUS.out x hx).1; have := HB1.out.size; omega) HD.out
 have HGCL := Lib.hid hgc
 clear hs1 hgc
 go_wp2_with fail
 refine HGCL.out.mono ?_
 rintro e w2 ⟨fc, fb, sc, vb, lb, gb, rfl, hb2, hraw⟩
 have HB2 := Lib.hid hb2
 have HB12 := Lib.hid (HB1.out.trans (hb2.mono HB1.out.size))
 have hl := hraw.low
 have hq : ∀ x ∈ Us, x.1 ≠ gb ∧ x.1 ≠ vb ∧ x.1 ≠ lb ∧ x.1 ≠ fb := fun x hx => by have := (HUS.out x hx).1; have := HB1.out.size; omega
 have hjd := joined_any hf ta tb _ _ w2 hraw hq (fun x hx => (HUS.out x hx).2) (tyQ_keep HTA.out fun x hx => HB12.out.block _ (HUS.out x hx).1) (tyQ_keep HTB.out fun x hx => HB12.out.block _ (HUS.out x hx).1) HFEW.out
 have HJD := Lib.hid hjd
 have HLW := Lib.hid hl
 have HRW := Lib.hid hraw
 have y0 := ent_cell (ent_below EA.out hb2) 0 _ rfl
 have y1 := ent_cell (ent_below EA.out hb2) 1 _ rfl
 have y2 := ent_cell (ent_below EA.out hb2) 2 _ rfl
 have z0 := ent_cell (ent_below EB.out hb2) 0 _ rfl
 have z1 := ent_cell (ent_below EB.out hb2) 1 _ rfl
 have z2 := ent_cell (ent_below EB.out hb2) 2 _ rfl
 clear hb2 hraw hl hq hjd
 go_wp2_with fail
 refine HJD.out.mono ?_
 rintro e w3 ⟨lv, b, rfl, j1, j2, j3⟩
 have HW3 := Lib.hid (show Below w.heap.size w w3 from HB12.out.trans (j1.below (B := w.heap.size) HB12.out.size fun k hk => by have := HLW.out; have := HB1.out.size; omega))
 have HS3 := Lib.hid (HS.out.keep (HW3.out.block _ HSL.out) fun x hx => HW3.out.block _ (HUS.out x hx).1)
 clear y0 y1 y2 z0 z1 z2
 cases b with
 | false =>
   have HJ2 := Lib.hid (j2 rfl)
   clear j1 j2 j3
   go_wp2_with fail
   go_ret
   exact ⟨.of_below HW3.out, .inr ⟨rfl, HJ2.out, HS3.out⟩⟩
 | true =>
   obtain ⟨c, z, ps, kl, rep, pv, L, lo, c1, c2, c3, c4, c5, c6, c7, cu, c8, c9, g, l1, l2, l3, l4, p1, p2, p3, p4, p5, p6⟩ := j3 rfl
   have htl := tell_any (c.at z) (c8.at c9 z) 2 ps kl rep pv w3 (by omega) g (by rw [show (c.at z).sb = c.sb from rfl, c6]; exact c7)
   rw [show (c.at z).sb = c.sb from rfl, show (c.at z).gb = c.gb from rfl, show (c.at z).f = c.f from rfl, show (c.at z).U = c.U from rfl, c6, c1, c5] at htl
   have HTL := Lib.hid htl
   have HCU := Lib.hid (show llen c.U ≤ llen Us + ta.sz + tb.sz ∧ ∀ x ∈ c.U, x.1 < w3.heap.size ∧ x.1 ≠ sb from ⟨cu, fun x hx => ⟨(g.look.q x hx).1, c7 x hx⟩⟩)
   have HPP := Lib.hid (⟨g, l4, p1, p2, p6, c5⟩ : GSt (c.at z) 2 w3 ps kl rep pv ∧ _ ∧ _ ∧ _ ∧ _ ∧ c.f = f)
   clear j1 j2 j3 c1 c2 c3 c4 c5 c6 c7 cu g l1 l2 l3 l4 p1 p2 p3 p4 p5 p6 htl
   go_wp2_with fail
   refine HTL.out.mono ?_
   rintro e w4 ⟨rfl, t1, t2⟩
   have HT1 := Lib.hid t1; have HT2 := Lib.hid t2
   clear t1 t2
   go_wp2_with fail
   go_ret
   obtain ⟨g, l4, p1, p2, p6, c5⟩ := HPP.out
   have hinv := g.inv
   have htt := told_tells hinv
   rw [show (c.at z).f = f from c5] at hinv htt
   refine ⟨(Chg.of_below HW3.out).then HT2.out fun x hx hr => ?_, .inl ⟨rfl, told f (mkGr ps kl rep) ps.length, c.U, Ux.tells_fine hf hinv p1 p2 htt, fun σ => ?_, HT1.out, HCU.out.1, fun x hx => ⟨by have := (HCU.out.2 x hx).1; have := HT2.out.size; omega, (HCU.out.2 x hx).2⟩⟩⟩
   · rcases hr with hr | hr
     · exact hr
     · have := l4 x hr; have := HB12.out.size; omega
   · rw [← p6 σ]
     exact ⟨fun h => Ux.tells_one hinv p1 p2 htt h, fun h => Ux.tells_sol htt h⟩
end Go.Proofs.YtcblppojnailpaaDoor
namespace Go.Proofs.YtcblppojnailpaaDoor
open Go Go.RowKit
set_option linter.unusedVariables false
set_option linter.unusedSimpArgs false
/-- 'append(s, row...)' in a list of operations. -/
theorem wpList_append_row {α : Type} {rep : Value → α → Prop} {w : World} {ops : Array Oper} {rest : List Oper} {o : Oper} {a : Act} {Q : Exit → Act → World → Prop} (hgd : o.guard = none) (s x : Operand) (t : TypeId)
 (ho : o.op = .call { callee := .builtin .append, args := #[s, x], argTypes := #[t, t] })
 (base : Nat) (e : TypeId) (i : TypeInfo) (z : Value) (size bytes : Nat) (ht : Tryd.prog.underlying t = some (.slice e)) (hi : Tryd.prog.info? e = some i) (hz : i.zero = some z)
 (hsize : i.size = size) (hby : i.bytes = bytes) (hzs : z.cells.size = size) (hsz : 0 < size)
 (v : Value) (n : Nat) (vs : List Value) (hs : a.eval s = v) (hown : w.ownsRow base e size v n (cellsOf vs))
 (vx : Value) (hx : a.eval x = vx) (ys : List α) (hrow : RowAt size rep w vx ys) (hone : ∀ u x, rep u x → ∀ c ∈ u.cells.toList, c.oneCell' = true)
 (h63 : n + ys.length ≤ maxLen) (hbytes : (n + ys.length) * bytes ≤ 140737488355328) (hbase : base ≤ w.heap.size)
 (h : ∀ v' w' us, Reps rep us ys → (∀ u ∈ us, u.cells.size = size) → w'.ownsRow base e size v' (n + ys.length) (cellsOf (vs ++ us)) → w.grownBy w' v.ownBlock → (v'.ownBlock = v.ownBlock ∨ ∀ g, v'.ownBlock = some g → w.heap.size ≤ g) → wpList Tryd.prog ops Q rest (a.put o.dst v') w') :
 wpList Tryd.prog ops Q (o :: rest) a w := by
 refine wpList_plain hgd fun K hK => ?_
 by_cases hys : ys = []
 · subst hys
   obtain ⟨q, c, rfl⟩ := hrow.len
   have hr := run_append_zero w base t o.type e i size ht hi v n _ hown q c
   unfold Oper.wp execOp
   simp only [ho, resolve, invoke, builtin, Sem.run_bind, Sem.run_pure, Result.andThen_ok, List.map_toArray, List.map_cons, List.map_nil, hs, hx, List.length_nil, hr]
   exact hK _ _ (h v w [] trivial (fun u hu => by cases hu) (by rw [List.append_nil]; exact hown) ⟨rfl, rfl, rfl, Nat.le_refl _, fun _ _ _ => rfl⟩ (.inl rfl))
 · rcases hrow with ⟨h0, _⟩ | ⟨g, of, c, rfl, _, _, h4⟩
   · exact absurd h0 hys
   · obtain ⟨us, hu1, hu2, hu3⟩ := row_vals ys of h4
     have hpos : 0 < ys.length := List.length_pos_iff.2 hys
     obtain ⟨v', w', hr, h2, h3, h5⟩ := run_append_loc w base t o.type e i z size bytes ht hi hz hsize hby hzs hsz v n _ hown ⟨g, of, none⟩ ys.length c hpos (cellsOf us)
      (by rw [cellsOf_len size hu2, hu1.len]) (fun j u hj => by
        have e : (⟨g, of, none⟩ : Addr).add j = ⟨g, of + j, none⟩ := by unfold Addr.add; split <;> simp_all
        rw [e]; exact hu3 j u hj) (fun u hu => by
        obtain ⟨y, hy, hz⟩ := List.mem_flatMap.1 hu
        exact Reps.all (q := fun u => ∀ c ∈ u.cells.toList, c.oneCell' = true) hone hu1 y hy u hz) h63 hbytes hbase
     unfold Oper.wp execOp
     simp only [ho, resolve, invoke, builtin, Sem.run_bind, Sem.run_pure, Result.andThen_ok, List.map_toArray, List.map_cons, List.map_nil, hs, hx, hr]
     exact hK _ _ (h v' w' us hu1 hu2 (by rw [cellsOf_append]; exact h2) h3 h5)
theorem tyP_one {w : World} (u : Value) (x : Ux.Ty) (h : TyP w u x) : ∀ c ∈ u.cells.toList, c.oneCell' = true := by
 obtain ⟨k, s, q, m, c, rfl⟩ := tyP_sh h
 intro z hz
 simp only [Value.cells, List.mem_cons, List.not_mem_nil, or_false] at hz
 rcases hz with rfl | rfl | rfl <;> rfl
/-- A list of the call's own lies where no text is laid. -/
theorem own_free {w u : World} {base E sz n : Nat} {v : Value} {cs : List Value} (h : w.ownsRow base E sz v n cs) (hk : ∀ b, v.ownBlock = some b → u.heap[b]? = w.heap[b]?) : Free u v := by
 intro g o m c hv hm
 rcases h.2 with ⟨h0, _⟩ | ⟨g', cap, cur, h0, hb, hg, _⟩
 · rw [hv] at h0; cases h0
 · rw [hv] at h0
   simp only [Value.slice.injEq, Option.some.injEq, Addr.mk.injEq] at h0
   obtain ⟨⟨rfl, rfl, _⟩, rfl, rfl⟩ := h0
   exact ⟨_, _, (hk g (by rw [hv]; rfl)).trans hg⟩
set_option maxHeartbeats 4000000 in
theorem of_any (nm : List UInt8) (v : Value) (xs : List Ux.Ty) (base : Nat) (w : World) (hbase : base ≤ w.heap.size) (hx : RowAt 3 (fun u x => Hang TyP base 0 0 w u x) w v xs) (hl : xs.length ≤ 1000000000) :
 Calls Tryd.prog 24 #[.string ⟨nm.toArray⟩, v] w (fun e w' => ∃ r, e = .returned r ∧ Below w.heap.size w w' ∧ Hang TyP base w.heap.size w'.heap.size w' r (.a nm xs)) := by
 obtain ⟨q, cp, rfl⟩ := hx.len
 have HX := Lib.hid hx
 obtain ⟨i0, hi, hq0, hq1, hq2⟩ := infoParts infoTy
 have I0 := Lib.hid hi; have I00 := Lib.hid hq0; have I01 := Lib.hid hq1; have I02 := Lib.hid hq2
 clear hx hi hq0 hq1 hq2
 go_enter Tryd.func24, Tryd.ntmps24
 have ER := Lib.hid (ent_new w #[.int .i64 0, .string ⟨#[]⟩, .slice none 0 0] 30)
 have HB := Lib.hid (show Below w.heap.size w (w.alloc (.cells #[.int .i64 0, .string ⟨#[]⟩, .slice none 0 0] 30)) from (Below.refl _ _).alloc (Nat.le_refl _) _)
 have hs1 : (w.alloc (.cells #[.int .i64 0, .string ⟨#[]⟩, .slice none 0 0] 30)).heap.size = w.heap.size + 1 := by simp
 go_upto_region 1 with fail
 generalize w.alloc (.cells #[.int .i64 0, .string ⟨#[]⟩, .slice none 0 0] 30) = w1 at ER HB hs1 ⊢
 have HX1 : Hid (RowAt 3 (fun u x => Hang TyP base 0 0 w u x) w1 (.slice q xs.length cp) xs) := Lib.hid (HX.out.mono HB.out fun _ _ _ h => h)
 go_wp2_with (at_builtin; refine wpList_append_row (rep := fun u x => Hang TyP base 0 0 w u x) rfl (.const (.slice none 0 0)) (.tmp 6) 28 rfl (w.heap.size + 1) 30 i0 (.agg #[.int .i64 0, .string ⟨#[]⟩, .slice none 0 0]) 3 48 Tryd.underlying28 I0.out I00.out I01.out I02.out rfl (by decide) (.slice none 0 0) 0 [] rfl (own_none _ _ _ _ (by omega)) _ rfl xs HX1.out (fun u x h => tyP_one u x h.now) (by unfold maxLen; omega) (by omega) (by omega) ?_)
 intro v2 w2 us hus hsz hown hgr hloc
 try simp only [List.nil_append, Nat.zero_add] at hown
 obtain ⟨p2, c2, rfl⟩ := own_slice hown
 have hb2 : Below w1.heap.size w1 w2 := (Below.refl _ _).grown hgr (Nat.le_refl _) (fun kk hkk => by simp [Value.ownBlock] at hkk)
 have ER2 := Lib.hid (ent_below ER.out hb2)
 have HB2 := Lib.hid (HB.out.trans (hb2.mono HB.out.size))
 have hs2 := hb2.size
 have HO := Lib.hid hown; have HUS := Lib.hid hus; have HSZ := Lib.hid hsz
 clear hown hgr hloc hus hsz hb2
 have r0 := ent_cell ER2.out 0 _ rfl
 have r1 := ent_cell ER2.out 1 _ rfl
 have r2 := ent_cell ER2.out 2 _ rfl
 have rf := ent_free ER2.out
 go_wp2_with fail
 clear r0 r1 r2 rf
 have HB3 := Lib.hid (below_set3 HB2.out w.heap.size (Nat.le_refl _) (.int .i64 (-1)) (.string ⟨nm.toArray⟩) (.slice p2 xs.length c2))
 have ER3 := Lib.hid (ent_set3 ER2.out (.int .i64 (-1)) (.string ⟨nm.toArray⟩) (.slice p2 xs.length c2))
 have HK3 : Hid (∀ b, b ≠ w.heap.size → (((w2.setCell ⟨w.heap.size, 0, none⟩ (.int .i64 (-1))).setCell ⟨w.heap.size, 1, none⟩ (.string ⟨nm.toArray⟩)).setCell ⟨w.heap.size, 2, none⟩ (.slice p2 xs.length c2)).heap[b]? = w2.heap[b]?) :=
  Lib.hid (fun b hb => ((Below.heap_setCell _ ⟨w.heap.size, 2, none⟩ _ b hb).trans (Below.heap_setCell _ ⟨w.heap.size, 1, none⟩ _ b hb)).trans (Below.heap_setCell _ ⟨w.heap.size, 0, none⟩ _ b hb))
 have HS3 : Hid ((((w2.setCell ⟨w.heap.size, 0, none⟩ (.int .i64 (-1))).setCell ⟨w.heap.size, 1, none⟩ (.string ⟨nm.toArray⟩)).setCell ⟨w.heap.size, 2, none⟩ (.slice p2 xs.length c2)).heap.size = w2.heap.size) := Lib.hid (by simp)
 generalize ((w2.setCell ⟨w.heap.size, 0, none⟩ (.int .i64 (-1))).setCell ⟨w.heap.size, 1, none⟩ (.string ⟨nm.toArray⟩)).setCell ⟨w.heap.size, 2, none⟩ (.slice p2 xs.length c2) = w3 at HB3 ER3 HK3 HS3 ⊢
 have r0 := ent_cell ER3.out 0 _ rfl
 have r1 := ent_cell ER3.out 1 _ rfl
 have r2 := ent_cell ER3.out 2 _ rfl
 refine bodyPost_ret (v := .agg #[.int .i64 (-1), .string ⟨nm.toArray⟩, .slice p2 xs.length c2]) (by simp [results, Tryd.results24, go_sem, r0, r1, r2]) rfl ?_
 refine ⟨_, rfl, HB3.out, ?_⟩
 intro u' hu'
 have hk : ∀ b, b < base ∨ (w.heap.size + 1 ≤ b ∧ b < w2.heap.size) → u'.heap[b]? = w2.heap[b]? := fun b hb => (hu' b (by rw [HS3.out]; omega)).trans (HK3.out b (by omega))
 refine tyP_a.2 ⟨-1, _, by decide, rfl, rowH (base := base) HO.out rfl (HUS.out.mono fun z x hz => ⟨w2.heap.size, w2.heap.size, by omega, Nat.le_refl _, fun g hg => .inl (HO.out.lt g hg).2, (hz.same fun b hb => HB2.out.block b (by omega)).more _ _⟩) HSZ.out hk, own_free HO.out fun b hb => hk b (.inr ⟨(HO.out.lt b hb).1, (HO.out.lt b hb).2⟩)⟩
end Go.Proofs.YtcblppojnailpaaDoor
