/-
  Several texts in one: UJd, UTell, UUni, USizT, UApp, UParts.
-/
import Derived.Test.YtcblppojnailpaaDoorH10
import Derived.Test.YtcblppojnailpaaDoorH09
import Derived.BigRegion
import Derived.Test.YtcblppojnailpaaDoorH01
import Derived.Test.YtcblppojnailpaaDoorH00
import Derived.Test.YtcblppojnailpaaDoorH07
namespace Go.Proofs.YtcblppojnailpaaDoor
open Go Go.RowKit
set_option linter.unusedVariables false
set_option linter.unusedSimpArgs false
theorem OwnM.keep {Q : LKey → Prop} {mb db : Nat} {c : Asg} {n : Nat} {w w' : World} (h : OwnM Q mb db c n w) (h1 : w'.heap[mb]? = w.heap[mb]?) (h2 : w'.heap[db]? = w.heap[db]?) (hq : ∀ x, Q x → w'.heap[x.1]? = w.heap[x.1]?) (hc : ∀ B, c B ≠ none → w'.heap[B]? = w.heap[B]?) (hs : w.heap.size ≤ w'.heap.size) : OwnM Q mb db c n w' :=
 ⟨h.mks.keep h1 h2 hq fun _ _ h => h, fun B ys hB => (h.made B ys hB).keep (hc B (by rw [hB]; simp)) fun _ _ h => h, fun B ys hB => by have := h.old B ys hB; exact ⟨by omega, this.2⟩⟩
set_option maxHeartbeats 4000000 in
set_option maxRecDepth 100000 in
theorem joined_any {Us : List LKey} {f : Ux.Map} {fc fb sc sb vb lb gb y : Nat} (hf : Ux.Fine f) (ta tb : Ux.Ty) (va vB : Value) (w : World) (hr : GRaw (· ∈ Us) f fc fb sc sb vb lb gb y w) (hus : ∀ x ∈ Us, x.1 ≠ gb ∧ x.1 ≠ vb ∧ x.1 ≠ lb ∧ x.1 ≠ fb) (hus2 : ∀ x ∈ Us, x.1 ≠ sb) (hta : TyQ (· ∈ Us) w va ta) (htb : TyQ (· ∈ Us) w vB tb) (hfew : llen Us + ta.sz + tb.sz ≤ 100000) :
 Calls Tryd.prog 32 #[.pointer (some ⟨gb, 0, none⟩), va, vB] w (JdPost f gb vb lb fb sb (llen Us + ta.sz + tb.sz) ta tb w) := by
 obtain ⟨ka, sa, qa, ma, ca, rfl⟩ := tyQ_sh hta
 obtain ⟨kb, sb', qb, mb', cb, rfl⟩ := tyQ_sh htb
 have HR := Lib.hid hr; have HUS := Lib.hid hus; have HUS2 := Lib.hid hus2; have HTA := Lib.hid hta; have HTB := Lib.hid htb; have HFEW := Lib.hid hfew
 clear hr hus hus2 hta htb hfew
 go_enter Tryd.func32, Tryd.ntmps32
 have HB1 := Lib.hid (show Below w.heap.size w ((w.alloc (.cells #[.int .i64 ka, .string sa, .slice qa ma ca] 30)).alloc (.cells #[.int .i64 kb, .string sb', .slice qb mb' cb] 30)) from ((Below.refl _ _).alloc (Nat.le_refl _) _).alloc (by simp) _)
 have EA := Lib.hid (ent_alloc (ent_new w #[.int .i64 ka, .string sa, .slice qa ma ca] 30) (.cells #[.int .i64 kb, .string sb', .slice qb mb' cb] 30))
 have EB := Lib.hid (ent_new (w.alloc (.cells #[.int .i64 ka, .string sa, .slice qa ma ca] 30)) #[.int .i64 kb, .string sb', .slice qb mb' cb] 30)
 rw [show (w.alloc (.cells #[.int .i64 ka, .string sa, .slice qa ma ca] 30)).heap.size = w.heap.size + 1 by simp] at EB
 have hs1 : ((w.alloc (.cells #[.int .i64 ka, .string sa, .slice qa ma ca] 30)).alloc (.cells #[.int .i64 kb, .string sb', .slice qb mb' cb] 30)).heap.size = w.heap.size + 2 := by simp
 go_upto_region 1 with fail
 generalize (w.alloc (.cells #[.int .i64 ka, .string sa, .slice qa ma ca] 30)).alloc (.cells #[.int .i64 kb, .string sb', .slice qb mb' cb] 30) = w1 at EA EB HB1 hs1 ⊢
 have HS1 := Lib.hid hs1
 clear hs1
 go_wp2_with fail
 refine (newMaker_any (· ∈ Us) Ux.Ty.v 28 #[] w1).mono ?_
 rintro e w2 ⟨mb, db, rfl, hb2, hmb, hdb, hmk⟩
 have HB2 := Lib.hid hb2
 have EA2 := Lib.hid (ent_below EA.out hb2)
 have EB2 := Lib.hid (ent_below EB.out hb2)
 have hq0 : ∀ x ∈ Us, x.1 < w.heap.size := fun x hx => (HR.out.look.q x hx).1
 have hmd : mb < w2.heap.size ∧ db < w2.heap.size := ⟨ent_lt hmk.cell, by obtain ⟨L, h4, _⟩ := hmk.made; exact h4.lt⟩
 have HMD2 := Lib.hid (show mb < w2.drew.heap.size ∧ db < w2.drew.heap.size from hmd)
 have HQ2 := Lib.hid (show ∀ x, x ∈ Us → x.1 < w2.drew.heap.size ∧ x.1 ≠ mb ∧ x.1 ≠ db from fun x hx => by
  have h1 := hq0 x hx; have h2 := HS1.out; have h3 := HB2.out.size
  show x.1 < w2.heap.size ∧ _
  omega)
 have HTA2 := Lib.hid (show TyQ (· ∈ Us) w2.drew _ ta from tyQ_keep HTA.out fun x hx => (hb2.block _ (by have := hq0 x hx; have := HS1.out; omega)).trans (HB1.out.block _ (hq0 x hx)))
 have HTB2 := Lib.hid (show TyQ (· ∈ Us) w2.drew _ tb from tyQ_keep HTB.out fun x hx => (hb2.block _ (by have := hq0 x hx; have := HS1.out; omega)).trans (HB1.out.block _ (hq0 x hx)))
 have hom : OwnM (· ∈ Us) mb db (fun _ => none) 0 w2 := ⟨hmk, (fun B ys h => by cases h), fun B ys h => by cases h⟩
 have HOM2 : Hid (OwnM (· ∈ Us) mb db (fun _ => none) 0 w2.drew) := Lib.hid (hom.keep rfl rfl (fun _ _ => rfl) (fun _ _ => rfl) (Nat.le_refl _))
 clear hom hmk hb2 hq0 hmd
 go_upto_region 2 with fail
 refine wp_region_held_drew (S := fun (u : World) => u.heap[w.heap.size]? = some (.cells #[.int .i64 ka, .string sa, .slice qa ma ca] 30 (0, 0)) ∧ u.heap[w.heap.size + 1]? = some (.cells #[.int .i64 kb, .string sb', .slice qb mb' cb] 30 (0, 0))) (by kernel_rfl) (⟨EA2.out, EB2.out⟩) (fun hHeld => ?_)
 refine wpAnyH_take (i := 0) (v := .pointer (some ⟨gb, 0, none⟩)) rfl (by kernel_rfl) (by kernel_rfl) (by kernel_rfl) (fun _ _ _ h => h) (Or.inl ⟨by rfl, fun w' hSw => by go_simp⟩) hHeld ?_
 refine wpAnyH_take (i := 1) (v := .pointer (some ⟨mb, 0, none⟩)) rfl (by kernel_rfl) (by kernel_rfl) (by kernel_rfl) (fun _ _ _ h => h) (Or.inl ⟨by rfl, fun w' hSw => by go_simp⟩) hHeld ?_
 refine wpAnyH_take (i := 2) (v := .agg #[.int .i64 ka, .string sa, .slice qa ma ca]) rfl (by kernel_rfl) (by kernel_rfl) (by kernel_rfl) (fun _ _ _ h => h) (Or.inl ⟨by rfl, fun w' hSw => by have t0 := ent_cell hSw.1 0 _ rfl; have t1 := ent_cell hSw.1 1 _ rfl; have t2 := ent_cell hSw.1 2 _ rfl; go_simp⟩) hHeld ?_
 refine wpAnyH_take (i := 5) (v := .pointer (some ⟨gb, 0, none⟩)) rfl (by kernel_rfl) (by kernel_rfl) (by kernel_rfl) (fun _ _ _ h => h) (Or.inl ⟨by rfl, fun w' hSw => by go_simp⟩) hHeld ?_
 refine wpAnyH_take (i := 6) (v := .pointer (some ⟨mb, 0, none⟩)) rfl (by kernel_rfl) (by kernel_rfl) (by kernel_rfl) (fun _ _ _ h => h) (Or.inl ⟨by rfl, fun w' hSw => by go_simp⟩) hHeld ?_
 refine wpAnyH_take (i := 7) (v := .agg #[.int .i64 kb, .string sb', .slice qb mb' cb]) rfl (by kernel_rfl) (by kernel_rfl) (by kernel_rfl) (fun _ _ _ h => h) (Or.inl ⟨by rfl, fun w' hSw => by have t0 := ent_cell hSw.2 0 _ rfl; have t1 := ent_cell hSw.2 1 _ rfl; have t2 := ent_cell hSw.2 2 _ rfl; go_simp⟩) hHeld ?_
 try simp only [Act.put, List.getElem_toArray, List.getElem_cons_succ, List.getElem_cons_zero, List.setIfInBounds_toArray, List.set_cons_zero, List.set_cons_succ]
 refine wpAnyH_ready (rs := [3]) (by kernel_rfl) (by simp) ?_
 refine AllReadyH.cons rfl (fun K hK => ?_) AllReadyH.nil
 go_simp
 refine (ownTyp_any HOM2.out HTA2.out HMD2.out HQ2.out (by have := HFEW.out; omega)).mono ?_
 rintro e w3 ⟨ra, c1, n1, rfl, hom3, hra, hle, hnew, hch3, hn3⟩
 have hs1 := HS1.out
 have hs2 : w2.drew.heap.size = w2.heap.size := rfl
 have hgl : gb < w.heap.size := ent_lt HR.out.cell
 have hlw := HR.out.low
 have hb23 : Below w1.heap.size w1 w3 := (HB2.out.trans ((Below.refl _ _).drew.mono HB2.out.size)).trans (hch3.below (by rw [hs2]; exact HB2.out.size) fun k hk => by omega)
 have hb3 : Below w.heap.size w w3 := HB1.out.trans (hb23.mono (by omega))
 obtain ⟨Ua, hua, hul, hux⟩ := tyQ_fin ta ra hra
 have hmade3 : ∀ B, c1 B ≠ none → w2.heap.size ≤ B ∧ B < w3.heap.size := fun B hB => by
  cases hcB : c1 B with
  | none => exact absurd hcB hB
  | some ys => exact ⟨hnew B hB rfl, (hom3.old B ys hcB).1⟩
 have hU1 : ∀ x ∈ Us ++ Ua, x.1 < w3.heap.size ∧ x.1 ≠ gb ∧ x.1 ≠ vb ∧ x.1 ≠ lb ∧ x.1 ≠ fb := fun x hx => by
  rcases List.mem_append.1 hx with hx | hx
  · have h1 := (HR.out.look.q x hx).1; have h2 := hb3.size; exact ⟨by omega, HUS.out x hx⟩
  · obtain ⟨⟨ys, hys⟩, _⟩ := hux x hx
    have h1 := hmade3 x.1 (by rw [hys]; simp); have h2 := HB2.out.size
    exact ⟨h1.2, by omega, by omega, by omega, by omega⟩
 have hraw := (HR.out.keep hb3).more (Q' := (· ∈ Us ++ Ua)) (fun x hx => List.mem_append.2 (.inl hx)) fun x hx => ⟨(hU1 x hx).1, (hU1 x hx).2.2.2.2⟩
 obtain ⟨C, hgb, hvb, hlb, hfb, hy0, hz, hCU, hCf, hCs, hC, hG, hLo⟩ : ∃ C : GCx, C.gb = gb ∧ C.vb = vb ∧ C.lb = lb ∧ C.fb = fb ∧ C.y0 = w3.heap.size ∧ (C.z0 = 0 ∧ C.z1 = 0) ∧ C.U = Us ++ Ua ∧ C.f = f ∧ (C.fc = fc ∧ C.sc = sc ∧ C.sb = sb) ∧ C.Ok ∧ GSt C 0 w3 [] (fun _ => none) id (.slice none 0 0) ∧ Lows C :=
  let h := hraw.gst hf (by have := HFEW.out; rw [llen_app]; omega) (fun x hx => (hU1 x hx).2) hraw.apart
  ⟨_, rfl, rfl, rfl, rfl, rfl, ⟨rfl, rfl⟩, rfl, rfl, ⟨rfl, rfl, rfl⟩, h.1, h.2.1, h.2.2⟩
 have EA3 := Lib.hid (ent_chg (w := w2.drew) EA2.out hch3 (by omega))
 have EB3 := Lib.hid (ent_chg (w := w2.drew) EB2.out hch3 (by omega))
 have HTB3 := Lib.hid (tyQ_keep HTB2.out fun x hx => hch3.block _ (HQ2.out x hx).1 (by have := (HQ2.out x hx).2; omega))
 have HTRA := Lib.hid (show TyQ (· ∈ C.U) w3 ra ta by rw [hCU]; exact tyQ_more hua fun x hx => ⟨List.mem_append.2 (.inr hx), rfl⟩)
 have HC3 := Lib.hid hC; have HG3 := Lib.hid hG; have HLO3 := Lib.hid hLo; have HOM3 := Lib.hid hom3; have HB3 := Lib.hid hb3; have HMADE := Lib.hid hmade3; have HUL := Lib.hid hul; have HN3 := Lib.hid hn3
 have HCE := Lib.hid (⟨hgb, hvb, hlb, hfb, hy0, hz, hCU, hCf⟩ : C.gb = gb ∧ C.vb = vb ∧ C.lb = lb ∧ C.fb = fb ∧ C.y0 = w3.heap.size ∧ (C.z0 = 0 ∧ C.z1 = 0) ∧ C.U = Us ++ Ua ∧ C.f = f)
 have HCS := Lib.hid hCs; have HUX := Lib.hid (show ∀ x ∈ Ua, ∃ ys, c1 x.1 = some ys from fun x hx => (hux x hx).1)
 have HSZ3 := Lib.hid (⟨hs1, hgl, hlw, hch3.size⟩ : w1.heap.size = w.heap.size + 2 ∧ gb < w.heap.size ∧ _ ∧ w2.drew.heap.size ≤ w3.heap.size)
 clear hs1 hs2 hgl hlw hb23 hb3 hua hul hux hmade3 hU1 hraw hgb hvb hlb hfb hy0 hz hCU hCf hCs hC hG hLo hom3 hra hle hnew hch3 hn3
 refine hK.out _ _ ⟨EA3.out, EB3.out⟩ (fun hHeld => ?_)
 clear hK K
 refine wpAnyH_ready (rs := [4]) (by kernel_rfl) (by simp) ?_
 refine AllReadyH.cons rfl (fun K hK => ?_) AllReadyH.nil
 go_simp
 have hnum := number_any C HC3.out 0 (by omega) [] (fun _ => none) id (.slice none 0 0) ra ta w3 HG3.out HTRA.out
 rw [HCE.out.1] at hnum
 refine hnum.mono ?_
 rintro e w4 ⟨i, ps1, pv1, rfl, g4, ch4, l4, hp4, hps4⟩
 have hs3 := HSZ3.out
 have hce := HCE.out
 have hlw := hs3.2.2.1
 have hb2s := HB2.out.size
 have hsd : w2.drew.heap.size = w2.heap.size := rfl
 have hnk : ∀ b, b ≠ gb ∧ b ≠ vb ∧ b ≠ fb → ¬ NKeep C (.slice none 0 0) b := fun b hb hr => by
  rcases hr with hr | hr | hr | hr
  · exact hb.1 (hr.trans hce.1)
  · exact hb.2.1 (hr.trans hce.2.1)
  · exact hb.2.2 (hr.trans hce.2.2.2.1)
  · cases hr
 have hmd := HMD2.out
 have EA4 := Lib.hid (ent_chg EA3.out ch4 (hnk _ (by omega)))
 have EB4 := Lib.hid (ent_chg EB3.out ch4 (hnk _ (by omega)))
 have HTB4 := Lib.hid (tyQ_keep HTB3.out fun x hx => ch4.block _ (by have := (HQ2.out x hx).1; omega) (hnk _ (by have := HUS.out x hx; exact ⟨this.1, this.2.1, this.2.2.2⟩)))
 have HOM4 := Lib.hid (HOM3.out.keep (ch4.block mb (by omega) (hnk _ (by omega))) (ch4.block db (by omega) (hnk _ (by omega))) (fun x hx => ch4.block _ (by have := (HQ2.out x hx).1; omega) (hnk _ (by have := HUS.out x hx; exact ⟨this.1, this.2.1, this.2.2.2⟩))) (fun B hB => ch4.block _ (HMADE.out B hB).2 (hnk _ (by have := HMADE.out B hB; omega))) ch4.size)
 have HMD4 := Lib.hid (show mb < w4.heap.size ∧ db < w4.heap.size by have := ch4.size; omega)
 have HQ4 := Lib.hid (show ∀ x, x ∈ Us → x.1 < w4.heap.size ∧ x.1 ≠ mb ∧ x.1 ≠ db from fun x hx => by have := HQ2.out x hx; have := ch4.size; omega)
 have HG4 := Lib.hid g4; have HCH4 := Lib.hid ch4; have HL4 := Lib.hid l4; have HP4 := Lib.hid hp4; have HPS4 := Lib.hid hps4
 clear hs3 hce hlw hb2s hsd hnk hmd g4 ch4 l4 hp4 hps4 hnum
 refine hK.out _ _ ⟨EA4.out, EB4.out⟩ (fun hHeld => ?_)
 clear hK K
 refine wpAnyH_ready (rs := [8]) (by kernel_rfl) (by simp) ?_
 refine AllReadyH.cons rfl (fun K hK => ?_) AllReadyH.nil
 go_simp
 refine (ownTyp_any HOM4.out HTB4.out HMD4.out HQ4.out (by have := HFEW.out; have := HN3.out; omega)).mono ?_
 rintro e w5 ⟨rb, c2, n2, rfl, hom5, hrb, hle5, hnew5, hch5, hn5⟩
 have hs3 := HSZ3.out
 have hce := HCE.out
 have hlw := hs3.2.2.1
 have hb2s := HB2.out.size
 have hsd : w2.drew.heap.size = w2.heap.size := rfl
 have hmd := HMD2.out
 have h4s := HCH4.out.size
 obtain ⟨Ub, hub, hubl, hubx⟩ := tyQ_fin tb rb hrb
 have hmore := HG4.out.moreU (U := C.U ++ Ub) (a := w4.heap.size) (b := w5.heap.size) HC3.out HLO3.out hce.2.2.2.2.2.1 hch5 (fun k hk => ⟨by rw [hce.1]; omega, by rw [hce.2.1]; omega, by rw [hce.2.2.1]; omega, by rw [HCS.out.1]; omega, by rw [hce.2.2.2.1]; omega, by rw [HCS.out.2.1]; omega, by rw [HCS.out.2.2]; omega, fun e => by
  rcases HL4.out with e2 | e2
  · rw [e2] at e; cases e
  · have := e2 k e; omega, fun x hx => by
  rw [hce.2.2.2.2.2.2.1] at hx
  rcases List.mem_append.1 hx with hx | hx
  · have := (HQ2.out x hx).2; omega
  · obtain ⟨ys, hys⟩ := HUX.out x hx
    have := (HOM3.out.old _ _ hys).2; omega⟩) (Nat.le_refl _) (Nat.le_refl _) (fun x hx => List.mem_append.2 (.inl hx)) (fun x hx => by
  rcases List.mem_append.1 hx with hx | hx
  · exact .inl hx
  · obtain ⟨⟨ys, hys⟩, cs, T, hc⟩ := hubx x hx
    cases hc1 : c1 x.1 with
    | some zs =>
      have := HMADE.out x.1 (by rw [hc1]; simp)
      exact .inr (.inl ⟨by rw [hce.2.2.2.2.1]; omega, by rw [hce.1]; omega, by rw [hce.2.1]; omega, by rw [hce.2.2.1]; omega, by rw [hce.2.2.2.1]; omega⟩)
    | none => exact .inr (.inr ⟨hnew5 x.1 (by rw [hys]; simp) hc1, ent_lt hc⟩)) (by rw [llen_app, hce.2.2.2.2.2.2.1, llen_app]; have := HFEW.out; have := HUL.out; omega)
 obtain ⟨C2, hgb, hvb, hlb, hfb, hCf, hCs, hy2, hUb2, hC2, hG2, hLo2⟩ : ∃ C2 : GCx, C2.gb = gb ∧ C2.vb = vb ∧ C2.lb = lb ∧ C2.fb = fb ∧ C2.f = f ∧ (C2.fc = fc ∧ C2.sc = sc ∧ C2.sb = sb) ∧ C2.y0 = w3.heap.size ∧ C2.U = C.U ++ Ub ∧ C2.Ok ∧ GSt C2 1 w5 ps1 (fun _ => none) id pv1 ∧ Lows C2 :=
  ⟨{ C with U := C.U ++ Ub, z0 := w4.heap.size, z1 := w5.heap.size }, hce.1, hce.2.1, hce.2.2.1, hce.2.2.2.1, hce.2.2.2.2.2.2.2, HCS.out, hce.2.2.2.2.1, rfl, hmore.1, hmore.2.1, hmore.2.2⟩
 have HSBU := Lib.hid (show ∀ x ∈ C2.U, x.1 ≠ sb from fun x hx => by
  rw [hUb2, hce.2.2.2.2.2.2.1] at hx
  rcases List.mem_append.1 hx with hx | hx
  · rcases List.mem_append.1 hx with hx | hx
    · exact HUS2.out x hx
    · obtain ⟨ys, hys⟩ := HUX.out x hx
      have := HMADE.out x.1 (by rw [hys]; simp); omega
  · obtain ⟨⟨ys, hys⟩, _⟩ := hubx x hx
    cases hc1 : c1 x.1 with
    | some zs => have := HMADE.out x.1 (by rw [hc1]; simp); omega
    | none => have := hnew5 x.1 (by rw [hys]; simp) hc1; omega)
 have HUB := Lib.hid (show llen C2.U ≤ llen Us + ta.sz + tb.sz by rw [hUb2, llen_app, hce.2.2.2.2.2.2.1, llen_app]; have := HUL.out; omega)
 have EA5 := Lib.hid (ent_chg EA4.out hch5 (by omega))
 have EB5 := Lib.hid (ent_chg EB4.out hch5 (by omega))
 have HTRB := Lib.hid (show TyQ (· ∈ C2.U) w5 rb tb by rw [hUb2]; exact tyQ_more hub fun x hx => ⟨List.mem_append.2 (.inr hx), rfl⟩)
 have HC5 := Lib.hid hC2; have HG5 := Lib.hid hG2; have HLO5 := Lib.hid hLo2; have HCH5 := Lib.hid hch5
 have HCE2 := Lib.hid (⟨hgb, hvb, hlb, hfb, hCf, hCs, hy2⟩ : C2.gb = gb ∧ C2.vb = vb ∧ C2.lb = lb ∧ C2.fb = fb ∧ C2.f = f ∧ (C2.fc = fc ∧ C2.sc = sc ∧ C2.sb = sb) ∧ C2.y0 = w3.heap.size)
 clear hs3 hce hlw hb2s hsd hmd h4s hub hubl hubx hmore hgb hvb hlb hfb hCf hCs hy2 hUb2 hC2 hG2 hLo2 hom5 hrb hle5 hnew5 hch5 hn5
 refine hK.out _ _ ⟨EA5.out, EB5.out⟩ (fun hHeld => ?_)
 clear hK K
 refine wpAnyH_ready (rs := [9]) (by kernel_rfl) (by simp) ?_
 refine AllReadyH.cons rfl (fun K hK => ?_) AllReadyH.nil
 go_simp
 have hnum := number_any C2 HC5.out 1 (by omega) ps1 (fun _ => none) id pv1 rb tb w5 HG5.out HTRB.out
 rw [HCE2.out.1] at hnum
 refine hnum.mono ?_
 rintro e w6 ⟨j, ps2, pv2, rfl, g6, ch6, l6, hp6, hps6⟩
 have hs3 := HSZ3.out
 have hce := HCE2.out
 have hlw := hs3.2.2.1
 have hnk : ∀ b, b ≠ gb ∧ b ≠ vb ∧ b ≠ fb ∧ b < w3.heap.size → ¬ NKeep C2 pv1 b := fun b hb hr => by
  rcases hr with hr | hr | hr | hr
  · exact hb.1 (hr.trans hce.1)
  · exact hb.2.1 (hr.trans hce.2.1)
  · exact hb.2.2.1 (hr.trans hce.2.2.2.1)
  · rcases HL4.out with e2 | e2
    · rw [e2] at hr; cases hr
    · have := e2 b hr; omega
 have hb2s := HB2.out.size
 have hsd : w2.drew.heap.size = w2.heap.size := rfl
 have EA6 := Lib.hid (ent_chg EA5.out ch6 (hnk _ (by omega)))
 have EB6 := Lib.hid (ent_chg EB5.out ch6 (hnk _ (by omega)))
 have HG6 := Lib.hid g6; have HCH6 := Lib.hid ch6; have HL6 := Lib.hid l6; have HP6 := Lib.hid hp6; have HPS6 := Lib.hid hps6
 clear hs3 hce hlw hnk hb2s hsd g6 ch6 l6 hp6 hps6 hnum
 refine hK.out _ _ ⟨EA6.out, EB6.out⟩ (fun hHeld => ?_)
 clear hK K
 refine wpAnyH_take (i := 10) (v := .int .i64 (i : Int)) rfl (by kernel_rfl) (by kernel_rfl) (by kernel_rfl) (fun _ _ _ h => h) (Or.inl ⟨by rfl, fun w' hSw => by go_simp⟩) hHeld ?_
 simp only [Act.put, List.getElem_toArray, List.getElem_cons_succ, List.getElem_cons_zero, List.setIfInBounds_toArray, List.set_cons_zero, List.set_cons_succ]
 refine wpAnyH_take (i := 11) (v := .int .i64 (j : Int)) rfl (by kernel_rfl) (by kernel_rfl) (by kernel_rfl) (fun _ _ _ h => h) (Or.inl ⟨by rfl, fun w' hSw => by go_simp⟩) hHeld ?_
 simp only [Act.put, List.getElem_toArray, List.getElem_cons_succ, List.getElem_cons_zero, List.setIfInBounds_toArray, List.set_cons_zero, List.set_cons_succ]
 refine wpAnyH_done (by kernel_rfl) ?_ _
 have hf2 := HCE2.out.2.2.2.2.1
 obtain ⟨s1, s2, s3, s4, s5, s6, s7⟩ := jd_start (f := f) (kl := fun _ => none) (by rw [← HCE.out.2.2.2.2.2.2.2]; exact HP4.out) HPS4.out (by rw [← hf2]; exact HP6.out) HPS6.out
 have hjn := join_any C2 HC5.out (fun σ => Ux.Sol f σ ∧ ta.app σ = tb.app σ) i j ps2 (fun _ => none) id pv2 w6 HG6.out s1 s2 s3 (by rw [hf2]; exact s4) s5 s6 rfl
 obtain ⟨D0, hD0⟩ : ∃ D0, D0 = (mkGr ps2 (fun _ => none) id).D i := ⟨_, rfl⟩
 rw [← hD0] at hjn s7
 have HS7 := Lib.hid s7
 clear hD0 s7
 rw [HCE2.out.1] at hjn
 have HJN := Lib.hid hjn
 have hw6 : Chg (fun k => k = gb ∨ k = vb ∨ k = lb ∨ k = fb) w w6 := by
  have hs3 := HSZ3.out
  have hb2s := HB2.out.size
  have hce := HCE.out
  have hce2 := HCE2.out
  have hsd : w2.drew.heap.size = w2.heap.size := rfl
  refine (((Chg.of_below HB3.out).then HCH4.out fun x hx hr => ?_).then HCH5.out fun x hx hr => by omega).then HCH6.out fun x hx hr => ?_
  · rcases hr with hr | hr | hr | hr
    · exact .inl (hr.trans hce.1)
    · exact .inr (.inl (hr.trans hce.2.1))
    · exact .inr (.inr (.inr (hr.trans hce.2.2.2.1)))
    · cases hr
  · rcases hr with hr | hr | hr | hr
    · exact .inl (hr.trans hce2.1)
    · exact .inr (.inl (hr.trans hce2.2.1))
    · exact .inr (.inr (.inr (hr.trans hce2.2.2.2.1)))
    · rcases HL4.out with e2 | e2
      · rw [e2] at hr; cases hr
      · have := e2 x hr; have := HB3.out.size; omega
 have HW6 := Lib.hid hw6
 have hl6 : ∀ g, pv2.ownBlock = some g → w.heap.size ≤ g := fun g hg => by
  have hs3 := HB3.out.size
  have h4 := HCH4.out.size
  have h5 := HCH5.out.size
  rcases HL6.out with e | e
  · rw [e] at hg
    rcases HL4.out with e2 | e2
    · rw [e2] at hg; cases hg
    · have := e2 g hg; omega
  · have := e g hg; omega
 have HLL6 := Lib.hid hl6
 clear s1 s2 s3 s4 s5 s6 hjn hw6 hl6 hf2 HG6 HG5 HG4 HG3 HC3 HLO3 HOM2 HOM3 HOM4 HTA HTB HTA2 HTB2 HTB3 HTB4 HTRA HTRB
 go_wp2_with fail
 refine HJN.out.mono ?_
 rintro e w7 ⟨ps7, kl7, rep, pv7, b, rfl, j1, j2, j3, j4, j5, j6⟩
 have HW7 := Lib.hid (show Chg (fun k => k = gb ∨ k = vb ∨ k = lb ∨ k = fb) w w7 from HW6.out.then j2 fun x hx hr => by
  have hce2 := HCE2.out
  rcases hr with hr | hr | hr | hr | hr
  · exact .inl (hr.trans hce2.1)
  · exact .inr (.inl (hr.trans hce2.2.1))
  · exact .inr (.inr (.inl (hr.trans hce2.2.2.1)))
  · exact .inr (.inr (.inr (hr.trans hce2.2.2.2.1)))
  · have := HLL6.out x hr; omega)
 cases b with
 | false =>
   have HJ6 := Lib.hid (j6 rfl)
   clear j1 j2 j3 j4 j5 j6
   go_wp2_with fail
   go_ret2
   exact ⟨_, false, rfl, HW7.out, fun _ => HJ6.out, fun e => by cases e⟩
 | true =>
   have HJ5 := Lib.hid (j5 rfl)
   have HG7 := Lib.hid j1
   have HST7 := Lib.hid j4
   have HL7 := Lib.hid (show ∀ g, pv7.ownBlock = some g → w.heap.size ≤ g from fun g hg => by
    rcases j3 with e | e
    · exact HLL6.out g (e ▸ hg)
    · have := e g hg; have := HW6.out.size; omega)
   clear j1 j2 j3 j4 j5 j6
   go_wp2_with fail
   have hin := inside_any C2 HC5.out HLO5.out i j i ps7 kl7 rep pv7 w7 HG7.out HJ5.out.2.2.2.1 HJ5.out.2.2.1 HST7.out
   rw [HCE2.out.1] at hin
   refine hin.mono ?_
   rintro e w8 ⟨z, ps8, kl8, pv8, L, W, lv, wv, him, hres⟩
   have HIM := Lib.hid him
   have HW8 := Lib.hid (show Chg (fun k => k = gb ∨ k = vb ∨ k = lb ∨ k = fb) w w8 from HW7.out.then him.chg fun x hx hr => by
    have hce2 := HCE2.out
    rcases hr with hr | hr | hr | hr | hr
    · exact .inl (hr.trans hce2.1)
    · exact .inr (.inl (hr.trans hce2.2.1))
    · exact .inr (.inr (.inl (hr.trans hce2.2.2.1)))
    · exact .inr (.inr (.inr (hr.trans hce2.2.2.2.1)))
    · have := HL7.out x hr; omega)
   have hlt7 : ∀ x, x < ps7.length → rep x < ps7.length := fun x hx => HG7.out.inv.rlt x hx
   have HLT7 := Lib.hid hlt7
   clear him hin hlt7
   rcases hres with ⟨rfl, hin8⟩ | ⟨rfl, hgrow, hno⟩
   · have HIN := Lib.hid hin8
     clear hin8
     go_wp2_with fail
     go_ret2
     have hce2 := HCE2.out
     have hcong8 := HIN.out.grow.cong (rep := rep) HG7.out.outr HLT7.out HJ5.out.1.1
     have hs0 : rep i ∈ L := by simpa using HIN.out.start
     refine ⟨_, true, rfl, HW8.out, (fun e => by cases e), fun _ => ⟨C2, z, ps8, kl8, rep, pv8, L, w7.heap.size, hce2.1, hce2.2.1, hce2.2.2.1, hce2.2.2.2.1, hce2.2.2.2.2.1, hce2.2.2.2.2.2.1.2.2, HSBU.out, HUB.out, HC5.out, HLO5.out, HIM.out.gst, HIM.out.lrow, HIM.out.lz.2, HW7.out.size, fun g hg => ?_, hcong8, HIN.out.ranked HIM.out.gst hcong8 rfl HJ5.out.1.2.symm, HIN.out.lok, by simpa using HIN.out.nd, Ux.all_in HIM.out.gst.inv hcong8 HIN.out.lok HIN.out.par hs0 (by show rep j ∈ L; rw [← HJ5.out.1.2]; exact hs0), fun σ => ?_, i, Nat.lt_of_lt_of_le HJ5.out.2.2.2.1 HIN.out.grow.len, hs0, fun σ hσ => ?_, fun x hx => HIN.out.rch x (List.mem_append.2 (.inl hx))⟩⟩
     · rcases HIM.out.loc with e | e
       · exact HL7.out g (e ▸ hg)
       · have := e g hg; have := HW7.out.size; omega
     · have h1 := HJ5.out.2.1 σ
       rw [hce2.2.2.2.2.1] at h1
       rw [← h1]
       exact HIN.out.grow.ks (f := f) HG7.out.outr HLT7.out σ
     · rw [HIN.out.grow.D (rep := rep) (rep' := rep) HJ5.out.2.2.2.1, HJ5.out.2.2.2.2.2]
       exact HS7.out σ hσ
   · have HNO := Lib.hid hno
     have HGW := Lib.hid hgrow
     clear hno hgrow
     go_wp2_with fail
     go_ret2
     have hce2 := HCE2.out
     refine ⟨_, false, rfl, HW8.out, (fun _ σ hg => ?_), fun e => by cases e⟩
     have h1 := HJ5.out.2.1 σ
     exact HNO.out σ ((HGW.out.ks (f := C2.f) HG7.out.outr HLT7.out σ).2 (h1.2 hg))
end Go.Proofs.YtcblppojnailpaaDoor
namespace Go.Proofs.YtcblppojnailpaaDoor
open Go Go.RowKit
set_option linter.unusedVariables false
set_option linter.unusedSimpArgs false
set_option maxRecDepth 10000 in
theorem map_some (b : Nat) (w : World) : (binOp .eql 26 (.map (some b)) (.map none)).run Tryd.prog w = .ok (.bool false) w := by first | rfl | (simp [binOp, go_sem, Tryd.underlying26]; done) | kernel_rfl
theorem tl_d {m k : Nat} (h : m ≤ k) (hn : ¬ m = k) : k - ((m : Int) + 1).toNat < k - ((m : Int)).toNat := by omega
/-- What the loop knows. -/
def TL (c : GCx) (ps : List Prt) (kl : LKey → Option (List Nat)) (rep : Nat → Nat) (pv : Value) (w0 : World) (k : Nat) (wr : World) : Prop :=
 ∃ ps', GEnd c wr ps' rep pv ∧ Same ps ps' ∧ SubAt (· ∈ c.U) wr c.sb (told c.f (mkGr ps kl rep) k) ∧ Chg (fun b => b = c.sb ∨ pv.ownBlock = some b) w0 wr
theorem TL.below {c : GCx} (hC : c.Ok) {e : Nat} {ps : List Prt} {kl : LKey → Option (List Nat)} {rep : Nat → Nat} {pv : Value} {w0 w w' : World} {k : Nat} (h : TL c ps kl rep pv w0 k w) (hG : GSt c e w0 ps kl rep pv) (hb : Below w.heap.size w w') : TL c ps kl rep pv w0 k w' := by
 obtain ⟨ps', a1, a2, a3, a4⟩ := h
 have a3' := a3
 obtain ⟨L, b1, _⟩ := a3
 have hs := a4.size
 exact ⟨ps', a1.chg (R := fun _ => False) (.of_below hb) id fun _ _ => id, a2, a3'.keep (hb.block _ b1.lt) fun x hx => hb.block _ (by have := (hG.look.q x hx).1; omega), a4.trans (.of_below hb)⟩
set_option maxHeartbeats 4000000 in
set_option maxRecDepth 100000 in
theorem tell_any (c : GCx) (hC : c.Ok) (e : Nat) (ps : List Prt) (kl : LKey → Option (List Nat)) (rep : Nat → Nat) (pv : Value) (w : World) (he : e ≤ 100) (h : GSt c e w ps kl rep pv) (hsb : ∀ x ∈ c.U, x.1 ≠ c.sb) :
 Calls Tryd.prog 33 #[.map (some c.sb), .pointer (some ⟨c.gb, 0, none⟩)] w (fun en w' => en = .returned (.int .i64 0) ∧ SubAt (· ∈ c.U) w' c.sb (told c.f (mkGr ps kl rep) ps.length) ∧ Chg (fun b => b = c.sb ∨ pv.ownBlock = some b) w w') := by
 have hown := h.own
 obtain ⟨pp, pc, rfl⟩ := own_slice hown
 have HL0 : Hid (TL c ps kl rep (.slice pp ps.length pc) w 0 w) := Lib.hid ⟨ps, h.gend, .refl ps, h.look.sub, .refl _ _⟩
 have HE := Lib.hid he
 have HG := Lib.hid h
 have HSB := Lib.hid hsb
 have g1 := ent_cell h.gcell 1 _ rfl
 clear h hsb hown he
 go_enter Tryd.func33, Tryd.ntmps33
 go_upto_region 2 with fail
 go_loopw [12] (fun iv wr => ∃ k : Nat, iv = .int .i64 (k : Int) ∧ k ≤ ps.length ∧ Hid (TL c ps kl rep (.slice pp ps.length pc) w k wr)) (fun iv _ => ps.length - (intOf iv).toNat)
 case atStart => exact ⟨0, rfl, Nat.zero_le _, HL0⟩
 case round =>
  clear HL0 g1
  obtain ⟨k, rfl, hk, HR⟩ := hrel
  by_cases hkl : k = ps.length
  · subst hkl
    go_wp2_with fail
    go_ret
    obtain ⟨ps', k1, k2, k3, k4⟩ := HR.out
    exact ⟨rfl, k3, k4⟩
  · obtain ⟨ps', k1, k2, k3, k4⟩ := HR.out
    have hlen := k2.1
    obtain ⟨p, hp⟩ : ∃ p, ps'[k]? = some p := ⟨_, List.getElem?_eq_getElem (by omega)⟩
    have ho := k1.own
    rw [hlen] at ho
    obtain ⟨pb, cur, rfl, hpb, hpbl, hk2, hk3, hpe, hcell⟩ := own_open ho (by omega)
    have y0 := ent_cell hpe _ _ (hcell (k * 5) (.int .i64 p.k) (by have := pcells_at 0 hp (by decide); rw [Nat.add_zero] at this; rw [this]; rfl))
    have y1 := ent_cell hpe _ _ (hcell (k * 5 + 1) (.string p.s) (by rw [pcells_at 1 hp (by decide)]; rfl))
    have y2 := ent_cell hpe _ _ (hcell (k * 5 + 2) (.slice p.q p.m p.c) (by rw [pcells_at 2 hp (by decide)]; rfl))
    have y3 := ent_cell hpe _ _ (hcell (k * 5 + 3) (.int .i64 p.tt) (by rw [pcells_at 3 hp (by decide)]; rfl))
    have y4 := ent_cell hpe _ _ (hcell (k * 5 + 4) (.int .i64 p.st) (by rw [pcells_at 4 hp (by decide)]; rfl))
    have hk1 := jq_lt hk hkl
    have hk4 : (ps.length : Int) ≤ (pc : Int) := by omega
    have HK := Lib.hid (⟨k1, k2, k3, k4⟩ : GEnd c wr ps' rep (.slice (some ⟨pb, 0, none⟩) ps.length pc) ∧ _ ∧ _ ∧ _)
    have HP := Lib.hid hp
    have HKK := Lib.hid (⟨hk, hkl⟩ : k ≤ ps.length ∧ ¬ k = ps.length)
    clear k1 k2 k3 k4 hp ho hpe hcell hlen hk hkl hk2 HR
    go_upto_region 4 with fail
    have hb1 : Below wr.heap.size wr (wr.alloc (.cells #[.int .i64 p.k, .string p.s, .slice p.q p.m p.c, .int .i64 (p.tt : Int), .int .i64 (p.st : Int)] 104)) := (Below.refl _ _).alloc (Nat.le_refl _) _
    have he1 := ent_new wr #[.int .i64 p.k, .string p.s, .slice p.q p.m p.c, .int .i64 (p.tt : Int), .int .i64 (p.st : Int)] 104
    have HB1 := Lib.hid hb1; have HE1 := Lib.hid he1
    clear hb1 he1 y0 y1 y2 y3 y4
    generalize wr.alloc (.cells #[.int .i64 p.k, .string p.s, .slice p.q p.m p.c, .int .i64 (p.tt : Int), .int .i64 (p.st : Int)] 104) = w1 at HB1 HE1 ⊢
    have y0 := ent_cell HE1.out 0 _ rfl
    have y1 := ent_cell HE1.out 1 _ rfl
    have y2 := ent_cell HE1.out 2 _ rfl
    have hw1 : wrap64 ((k : Int) + 1) = ((k + 1 : Nat) : Int) := (by have h1 := HG.out.few hC; have h2 := HE.out; have h3 := HKK.out.1; unfold wrap64; omega)
    obtain ⟨q, hq1, hq2⟩ := HK.out.2.1.back HP.out
    have hD : (mkGr ps kl rep).D k = p.D := by rw [(gr_at hq1).1, hq2]
    have hty : TyQ (· ∈ c.U) w p.ag p.D := by have := HG.out.ty q (List.mem_of_getElem? hq1); rw [hq2]; exact this
    have HTY := Lib.hid hty
    obtain ⟨d, hd⟩ := HK.out.1.tree
    have HTT := Lib.hid (hd k p HP.out).2.2.2
    have HDD := Lib.hid hD
    have HKB := Lib.hid (show TL c ps kl rep (.slice (some ⟨pb, 0, none⟩) ps.length pc) w k w1 from TL.below hC ⟨ps', HK.out.1, HK.out.2.1, HK.out.2.2.1, HK.out.2.2.2⟩ HG.out HB1.out)
    clear hq1 hq2 hD hty hd
    cases hDp : p.D with
    | a nm xs =>
      have hpk : p.k < 0 := by
       have h1 := HTY.out; rw [hDp] at h1
       obtain ⟨k', av, hk', e, hr⟩ := tyQ_a.1 h1
       simp only [Prt.ag, Value.agg.injEq, Array.mk.injEq, List.cons.injEq, Value.int.injEq] at e
       omega
      have hdc : decide ((0 : Int) ≤ p.k) = false := by simp; omega
      have HVD := Lib.hid hDp
      clear hDp hpk
      go_wp2_with fail
      refine (isVar_any p.k (.string p.s) (.slice p.q p.m p.c) w1).mono ?_
      rintro e2 w2 ⟨rfl, hb2⟩
      have HB2 := Lib.hid hb2
      clear hb2 y0 y1 y2
      go_wp2_with fail
      go_roundw
      case measure => exact tl_d HKK.out.1 HKK.out.2
      case rel => exact ⟨k + 1, rfl, jq_s HKK.out.1 HKK.out.2, Lib.hid (by have := TL.below hC HKB.out HG.out HB2.out; unfold TL at this ⊢; rw [told_skip fun n hn => by rw [HDD.out, HVD.out] at hn; cases hn]; exact this)⟩
    | v n =>
      have hpk : p.k = (n : Int) := by
       have h1 := HTY.out; rw [hDp] at h1
       obtain ⟨s', q', m1, c', e⟩ := tyQ_v.1 h1
       simp only [Prt.ag, Value.agg.injEq, Array.mk.injEq, List.cons.injEq, Value.int.injEq] at e; omega
      have hdc : decide ((0 : Int) ≤ p.k) = true := by rw [hpk]; simp
      have HVD := Lib.hid hDp
      have HPK := Lib.hid hpk
      clear hDp hpk
      have y3 := ent_cell HE1.out 3 _ rfl
      by_cases htk : p.tt = k
      · have hb3 : ((p.tt : Int) == (k : Int)) = true := by simp [htk]
        have HTK := Lib.hid htk
        clear htk
        go_wp2_with fail
        refine (isVar_any p.k (.string p.s) (.slice p.q p.m p.c) w1).mono ?_
        rintro e2 w2 ⟨rfl, hb2⟩
        have HB2 := Lib.hid hb2
        have y3 := ent_cell (ent_below HE1.out hb2) 3 _ rfl
        clear hb2 y0 y1 y2
        go_wp2_with fail
        go_roundw
        case measure => exact tl_d HKK.out.1 HKK.out.2
        case rel => exact ⟨k + 1, rfl, jq_s HKK.out.1 HKK.out.2, Lib.hid (by have := TL.below hC HKB.out HG.out HB2.out; unfold TL at this ⊢; rw [told_skip fun n hn => HTT.out.2 HTK.out]; exact this)⟩
      · have hb3 : ((p.tt : Int) == (k : Int)) = false := by simp; omega
        have HTK := Lib.hid htk
        have hms := map_some c.sb
        clear htk
        go_wp2_with fail
        refine (isVar_any p.k (.string p.s) (.slice p.q p.m p.c) w1).mono ?_
        rintro e2 w2 ⟨rfl, hb2⟩
        have HB2 := Lib.hid hb2
        have HE2 := Lib.hid (ent_below HE1.out hb2)
        have y3 := ent_cell (ent_below HE1.out hb2) 3 _ rfl
        clear hb2 y0 y1 y2
        go_upto_region 7 with fail
        obtain ⟨ps2, k1, k2, k3, k4⟩ := TL.below hC HKB.out HG.out HB2.out
        have hrl : rep k < ps.length := HG.out.inv.rlt k (Nat.lt_of_le_of_ne HKK.out.1 HKK.out.2)
        obtain ⟨pr, hpr⟩ : ∃ pr, ps2[rep k]? = some pr := ⟨_, List.getElem?_eq_getElem (by rw [k2.1]; exact hrl)⟩
        have ho := k1.own
        rw [k2.1] at ho
        obtain ⟨pb', cur', hpe', _, _, _, _, hpe2, hcell2⟩ := own_open ho (by omega)
        injection hpe' with hpe'; injection hpe' with hpe' _ _; subst hpe'
        have HR2 := Lib.hid (⟨ent_cell hpe2 _ _ (hcell2 (rep k * 5) (.int .i64 pr.k) (by have := pcells_at 0 hpr (by decide); rw [Nat.add_zero] at this; rw [this]; rfl)), ent_cell hpe2 _ _ (hcell2 (rep k * 5 + 1) (.string pr.s) (by rw [pcells_at 1 hpr (by decide)]; rfl)), ent_cell hpe2 _ _ (hcell2 (rep k * 5 + 2) (.slice pr.q pr.m pr.c) (by rw [pcells_at 2 hpr (by decide)]; rfl))⟩ : _ ∧ _ ∧ _)
        have HGE2 := Lib.hid k1
        have HSM2 := Lib.hid k2
        have HSU2 := Lib.hid k3
        have HCH2 := Lib.hid k4
        have HPR := Lib.hid hpr
        have HRL := Lib.hid hrl
        have HKL2 := Lib.hid (show k < ps2.length by rw [k2.1]; exact Nat.lt_of_le_of_ne HKK.out.1 HKK.out.2)
        have HGC := Lib.hid k1.gcell
        have HGN := Lib.hid (show ¬ (c.gb = c.sb ∨ (Value.slice (some ⟨pb, 0, none⟩) ps.length pc).ownBlock = some c.gb) from fun e => e.elim hC.neg.2.2.2.1 (own_ne k1.own k1.gcell fun cs e => by injection e with _ e _; cases e))
        have HBX := Lib.hid (show ¬ (wr.heap.size = c.sb ∨ (Value.slice (some ⟨pb, 0, none⟩) ps.length pc).ownBlock = some wr.heap.size) from fun e => by
         have h1 := HG.out.look.low; have h2 := HG.out.own.lt
         have h3 := HK.out.2.2.2.size
         rcases e with e | e
         · omega
         · have := (h2 _ e).2; omega)
        have hrk : (rep k : Int) < (ps.length : Int) := by omega
        clear k1 k2 k3 k4 hpr hrl ho hpe2 hcell2 y3
        refine wp_region_held_drew (S := fun (u : World) => Chg (fun b => b = c.sb ∨ (Value.slice (some ⟨pb, 0, none⟩) ps.length pc).ownBlock = some b) w2 u ∧ u.cell? ⟨pb, rep k * 5, none⟩ = some (.int .i64 pr.k) ∧ u.cell? ⟨pb, rep k * 5 + 1, none⟩ = some (.string pr.s) ∧ u.cell? ⟨pb, rep k * 5 + 2, none⟩ = some (.slice pr.q pr.m pr.c)) (by kernel_rfl) (⟨Chg.drew _, HR2.out.1, HR2.out.2.1, HR2.out.2.2⟩) (fun hHeld => ?_)
        refine wpAnyH_take (i := 0) (v := .map (some c.sb)) rfl (by kernel_rfl) (by kernel_rfl) (by kernel_rfl) (fun _ _ _ h => h) (Or.inl ⟨by rfl, fun w' hSw => by go_simp⟩) hHeld ?_
        refine wpAnyH_take (i := 1) (v := .pointer (some ⟨wr.heap.size, 0, none⟩)) rfl (by kernel_rfl) (by kernel_rfl) (by kernel_rfl) (fun _ _ _ h => h) (Or.inl ⟨by rfl, fun w' hSw => by go_simp⟩) hHeld ?_
        refine wpAnyH_take (i := 2) (v := .pointer (some ⟨wr.heap.size, 0, none⟩)) rfl (by kernel_rfl) (by kernel_rfl) (by kernel_rfl) (fun _ _ _ h => h) (Or.inl ⟨by rfl, fun w' hSw => by go_simp⟩) hHeld ?_
        refine wpAnyH_take (i := 3) (v := .int .i64 (n : Int)) rfl (by kernel_rfl) (by kernel_rfl) (by kernel_rfl) (fun _ _ _ h => h) (Or.inl ⟨by rfl, fun w' hSw => by have h := ent_cell (ent_chg HE2.out hSw.1 HBX.out) 0 _ rfl; have h' := HPK.out; go_simp⟩) hHeld ?_
        refine wpAnyH_take (i := 4) (v := .pointer (some ⟨c.gb, 0, none⟩)) rfl (by kernel_rfl) (by kernel_rfl) (by kernel_rfl) (fun _ _ _ h => h) (Or.inl ⟨by rfl, fun w' hSw => by go_simp⟩) hHeld ?_
        refine wpAnyH_take (i := 5) (v := .pointer (some ⟨c.gb, 0, none⟩)) rfl (by kernel_rfl) (by kernel_rfl) (by kernel_rfl) (fun _ _ _ h => h) (Or.inl ⟨by rfl, fun w' hSw => by go_simp⟩) hHeld ?_
        refine wpAnyH_take (i := 6) (v := .pointer (some ⟨c.gb, 1, none⟩)) rfl (by kernel_rfl) (by kernel_rfl) (by kernel_rfl) (fun _ _ _ h => h) (Or.inl ⟨by rfl, fun w' hSw => by go_simp⟩) hHeld ?_
        refine wpAnyH_take (i := 7) (v := .slice (some ⟨pb, 0, none⟩) ps.length pc) rfl (by kernel_rfl) (by kernel_rfl) (by kernel_rfl) (fun _ _ _ h => h) (Or.inl ⟨by rfl, fun w' hSw => by have h := ent_cell (ent_chg HGC.out hSw.1 HGN.out) 1 _ rfl; go_simp⟩) hHeld ?_
        refine wpAnyH_take (i := 8) (v := .pointer (some ⟨c.gb, 0, none⟩)) rfl (by kernel_rfl) (by kernel_rfl) (by kernel_rfl) (fun _ _ _ h => h) (Or.inl ⟨by rfl, fun w' hSw => by go_simp⟩) hHeld ?_
        refine wpAnyH_take (i := 9) (v := .int .i64 (k : Int)) rfl (by kernel_rfl) (by kernel_rfl) (by kernel_rfl) (fun _ _ _ h => h) (Or.inl ⟨by rfl, fun w' hSw => by go_simp⟩) hHeld ?_
        try simp only [Act.put, List.getElem_toArray, List.getElem_cons_succ, List.getElem_cons_zero, List.setIfInBounds_toArray, List.set_cons_zero, List.set_cons_succ]
        refine wpAnyH_ready (rs := [10]) (by kernel_rfl) (by simp) ?_
        refine AllReadyH.cons rfl (fun K hK => ?_) AllReadyH.nil
        go_simp
        refine (end_any3 c ps2 rep _ k HKL2.out w2.drew (HGE2.out.chg (R := fun _ => False) (.drew _) id fun _ _ => id)).mono ?_
        rintro e3 w3 ⟨rfl, ps3, g3, s3, st3, ch3⟩
        obtain ⟨a3, b3, hp3⟩ := s3.2 (rep k) pr HPR.out
        have ho3 := g3.own
        rw [s3.1, HSM2.out.1] at ho3
        obtain ⟨pb', cur', hpe', _, _, _, _, hpe2, hcell2⟩ := own_open ho3 (by have := HRL.out; omega)
        injection hpe' with hpe'; injection hpe' with hpe' _ _; subst hpe'
        have HR3 := Lib.hid (⟨ent_cell hpe2 _ _ (hcell2 (rep k * 5) (.int .i64 pr.k) (by have := pcells_at 0 hp3 (by decide); rw [Nat.add_zero] at this; rw [this]; rfl)), ent_cell hpe2 _ _ (hcell2 (rep k * 5 + 1) (.string pr.s) (by rw [pcells_at 1 hp3 (by decide)]; rfl)), ent_cell hpe2 _ _ (hcell2 (rep k * 5 + 2) (.slice pr.q pr.m pr.c) (by rw [pcells_at 2 hp3 (by decide)]; rfl))⟩ : _ ∧ _ ∧ _)
        have HCH3 := Lib.hid ((Chg.drew (R := fun b => (Value.slice (some ⟨pb, 0, none⟩) ps.length pc).ownBlock = some b) w2).trans ch3)
        have HGE3 := Lib.hid g3; have HSM3 := Lib.hid (HSM2.out.trans s3)
        clear g3 s3 st3 ch3 hp3 ho3 hpe2 hcell2
        refine hK.out _ _ ⟨HCH3.out.mono fun _ _ h => .inr h, HR3.out.1, HR3.out.2.1, HR3.out.2.2⟩ (fun hHeld => ?_)
        clear hK K
        refine wpAnyH_take (i := 11) (v := .pointer (some ⟨pb, rep k * 5, none⟩)) rfl (by kernel_rfl) (by kernel_rfl) (by kernel_rfl) (fun _ _ _ h => h) (Or.inl ⟨by rfl, fun w' hSw => by go_simp⟩) hHeld ?_
        simp only [Act.put, List.getElem_toArray, List.getElem_cons_succ, List.getElem_cons_zero, List.setIfInBounds_toArray, List.set_cons_zero, List.set_cons_succ]
        refine wpAnyH_take (i := 12) (v := .pointer (some ⟨pb, rep k * 5, none⟩)) rfl (by kernel_rfl) (by kernel_rfl) (by kernel_rfl) (fun _ _ _ h => h) (Or.inl ⟨by rfl, fun w' hSw => by go_simp⟩) hHeld ?_
        simp only [Act.put, List.getElem_toArray, List.getElem_cons_succ, List.getElem_cons_zero, List.setIfInBounds_toArray, List.set_cons_zero, List.set_cons_succ]
        refine wpAnyH_take (i := 13) (v := .agg #[.int .i64 pr.k, .string pr.s, .slice pr.q pr.m pr.c]) rfl (by kernel_rfl) (by kernel_rfl) (by kernel_rfl) (fun _ _ _ h => h) (Or.inl ⟨by rfl, fun w' hSw => by have t0 := hSw.2.1; have t1 := hSw.2.2.1; have t2 := hSw.2.2.2; go_simp⟩) hHeld ?_
        simp only [Act.put, List.getElem_toArray, List.getElem_cons_succ, List.getElem_cons_zero, List.setIfInBounds_toArray, List.set_cons_zero, List.set_cons_succ]
        refine wpAnyH_ready (rs := [14]) (by kernel_rfl) (by simp) ?_
        refine AllReadyH.cons rfl (fun K hK => ?_) AllReadyH.nil
        have hlow := HG.out.look.low
        have hown := HG.out.own.lt
        have hl7 := hC.low.2.2.2.2.2.2
        have hnU : ∀ x, x ∈ c.U → x.1 ≠ c.sb ∧ x.1 < w3.heap.size := fun x hx => by have h1 := HSB.out x hx; have h2 := (HG.out.look.q x hx).1; have h3 := HCH2.out.size; have h4 := HCH3.out.size; exact ⟨h1, by omega⟩
        have hnS : ¬ (Value.slice (some ⟨pb, 0, none⟩) ps.length pc).ownBlock = some c.sb := fun e => by have := (hown _ e).1; omega
        have hnV : ∀ x, x ∈ c.U → ¬ (Value.slice (some ⟨pb, 0, none⟩) ps.length pc).ownBlock = some x.1 := fun x hx e => HG.out.outl hC (hC.u x hx).1 e
        have hsu3 := HSU2.out.keep (HCH3.out.block _ (by have := HCH2.out.size; omega) hnS) fun x hx => HCH3.out.block _ (by have h2 := (HG.out.look.q x hx).1; have h3 := HCH2.out.size; omega) (hnV x hx)
        obtain ⟨q4, hq4, he4⟩ := HSM2.out.back HPR.out
        have hty4 : TyQ (· ∈ c.U) w3 (.agg #[.int .i64 pr.k, .string pr.s, .slice pr.q pr.m pr.c]) ((mkGr ps kl rep).D (rep k)) := by
         have h1 := HG.out.ty q4 (List.mem_of_getElem? hq4)
         have h2 : (mkGr ps kl rep).D (rep k) = q4.D := (gr_at hq4).1
         rw [h2]
         have h3 : TyQ (· ∈ c.U) w (.agg #[.int .i64 pr.k, .string pr.s, .slice pr.q pr.m pr.c]) q4.D := by rw [he4]; exact h1
         exact tyQ_keep h3 fun x hx => (HCH3.out.block _ (by have h2 := (HG.out.look.q x hx).1; have h3 := HCH2.out.size; omega) (hnV x hx)).trans (HCH2.out.block _ (HG.out.look.q x hx).1 fun e => e.elim (HSB.out x hx) (hnV x hx))
        obtain ⟨w4, hup, hsub, hch⟩ := hsu3.set n _ _ hty4 hnU
        have HSU4 := Lib.hid hsub; have HCH4 := Lib.hid hch
        have HGE4 := Lib.hid (HGE3.out.chg hch (fun e => hC.neg.2.2.2.1 e) fun b hb e => hnS (e ▸ hb))
        have hblk : ∀ o, w4.cell? ⟨pb, o, none⟩ = w3.cell? ⟨pb, o, none⟩ := fun o => by
         have := hch.block pb (by have := (HGE3.out.own.lt pb rfl).2; exact this) fun e => hnS (by rw [← e]; rfl)
         simp only [World.cell?, this]
        have HCL4 := Lib.hid (⟨(hblk _).trans HR3.out.1, (hblk _).trans HR3.out.2.1, (hblk _).trans HR3.out.2.2⟩ : _ ∧ _ ∧ _)
        clear hlow hown hl7 hnU hnS hnV hsu3 hq4 he4 hty4 hsub hch hblk
        go_simp
        refine hK.out _ _ ⟨(HCH3.out.mono fun _ _ h => .inr h).trans (HCH4.out.mono fun _ _ h => .inl h), HCL4.out.1, HCL4.out.2.1, HCL4.out.2.2⟩ (fun hHeld => ?_)
        clear hK K
        refine wpAnyH_done (by kernel_rfl) ?_ _
        go_wp2_with fail
        go_roundw
        case measure => exact tl_d HKK.out.1 HKK.out.2
        case rel => exact ⟨k + 1, rfl, jq_s HKK.out.1 HKK.out.2, Lib.hid ⟨_, HGE4.out, HSM3.out, by rw [told_set (by rw [HDD.out]; exact HVD.out) fun e => HTK.out (HTT.out.1 e)]; exact HSU4.out, HCH2.out.trans ((HCH3.out.mono fun _ _ h => .inr h).trans (HCH4.out.mono fun _ _ h => .inl h))⟩⟩
end Go.Proofs.YtcblppojnailpaaDoor
namespace Go.Proofs.YtcblppojnailpaaDoor
open Go Go.RowKit
set_option linter.unusedVariables false
set_option linter.unusedSimpArgs false
/-- What Unify answers. -/
def UniPost (f : Ux.Map) (sb : Nat) (Us : List LKey) (ta tb : Ux.Ty) (w : World) (e : Ending) (w' : World) : Prop :=
 Chg (· = sb) w w' ∧ ((e = .returned (.int .i64 0) ∧ ∃ (f' : Ux.Map) (U' : List LKey), Ux.Fine f' ∧ (∀ σ, Ux.Sol f' σ ↔ (Ux.Sol f σ ∧ ta.app σ = tb.app σ)) ∧ SubAt (· ∈ U') w' sb f' ∧ llen U' ≤ llen Us + ta.sz + tb.sz ∧ ∀ x ∈ U', x.1 < w'.heap.size ∧ x.1 ≠ sb) ∨ (e = .returned (.int .i64 5) ∧ (∀ σ, ¬ (Ux.Sol f σ ∧ ta.app σ = tb.app σ)) ∧ SubAt (· ∈ Us) w' sb f))
set_option maxHeartbeats 4000000 in
set_option maxRecDepth 100000 in
theorem sUnify_any (f : Ux.Map) (hf : Ux.Fine f) (sb : Nat) (Us : List LKey) (ta tb : Ux.Ty) (va vB : Value) (w : World) (hs : SubAt (· ∈ Us) w sb f) (hus : ∀ x ∈ Us, x.1 < w.heap.size ∧ x.1 ≠ sb) (hd : ∀ n, f n ≠ none → n < 1000000) (hta : TyQ (· ∈ Us) w va ta) (htb : TyQ (· ∈ Us) w vB tb) (hfew : llen Us + ta.sz + tb.sz ≤ 100000) :
 Calls Tryd.prog 13 #[.map (some sb), va, vB] w (UniPost f sb Us ta tb w) := by
 obtain ⟨ka, sa, qa, ma, ca, rfl⟩ := tyQ_sh hta
 obtain ⟨kb, sb', qb, mb', cb, rfl⟩ := tyQ_sh htb
 have HS := Lib.hid hs; have HUS := Lib.hid hus; have HTA := Lib.hid hta; have HTB := Lib.hid htb; have HFEW := Lib.hid hfew; have HD := Lib.hid hd
 clear hs hus hta htb hfew hd
 go_enter Tryd.func13, Tryd.ntmps13
 have HB1 := Lib.hid (show Below w.heap.size w ((w.alloc (.cells #[.int .i64 ka, .string sa, .slice qa ma ca] 30)).alloc (.cells #[.int .i64 kb, .string sb', .slice qb mb' cb] 30)) from ((Below.refl _ _).alloc (Nat.le_refl _) _).alloc (by simp) _)
 have EA := Lib.hid (ent_alloc (ent_new w #[.int .i64 ka, .string sa, .slice qa ma ca] 30) (.cells #[.int .i64 kb, .string sb', .slice qb mb' cb] 30))
 have EB := Lib.hid (ent_new (w.alloc (.cells #[.int .i64 ka, .string sa, .slice qa ma ca] 30)) #[.int .i64 kb, .string sb', .slice qb mb' cb] 30)
 rw [show (w.alloc (.cells #[.int .i64 ka, .string sa, .slice qa ma ca] 30)).heap.size = w.heap.size + 1 by simp] at EB
 go_upto_region 1 with fail
 generalize (w.alloc (.cells #[.int .i64 ka, .string sa, .slice qa ma ca] 30)).alloc (.cells #[.int .i64 kb, .string sb', .slice qb mb' cb] 30) = w1 at EA EB HB1 ⊢
 have hsl : sb < w.heap.size := by obtain ⟨L, h1, _⟩ := HS.out; exact h1.lt
 have hs1 := HS.out.keep (HB1.out.block _ hsl) fun x hx => HB1.out.block _ (HUS.out x hx).1
 have HSL := Lib.hid hsl
 clear hsl
 have hgc := graph_any (· ∈ Us) f sb w1 hs1 (fun x hx => by have := (HUS.out x hx).1; have := HB1.out.size; omega) HD.out
 have HGCL := Lib.hid hgc
 clear hs1 hgc
 go_wp2_with fail
 refine HGCL.out.mono ?_
 rintro e w2 ⟨fc, fb, sc, vb, lb, gb, rfl, hb2, hraw⟩
 have HB2 := Lib.hid hb2
 have HB12 := Lib.hid (HB1.out.trans (hb2.mono HB1.out.size))
 have hl := hraw.low
 have hq : ∀ x ∈ Us, x.1 ≠ gb ∧ x.1 ≠ vb ∧ x.1 ≠ lb ∧ x.1 ≠ fb := fun x hx => by have := (HUS.out x hx).1; have := HB1.out.size; omega
 have hjd := joined_any hf ta tb _ _ w2 hraw hq (fun x hx => (HUS.out x hx).2) (tyQ_keep HTA.out fun x hx => HB12.out.block _ (HUS.out x hx).1) (tyQ_keep HTB.out fun x hx => HB12.out.block _ (HUS.out x hx).1) HFEW.out
 have HJD := Lib.hid hjd
 have HLW := Lib.hid hl
 have HRW := Lib.hid hraw
 have y0 := ent_cell (ent_below EA.out hb2) 0 _ rfl
 have y1 := ent_cell (ent_below EA.out hb2) 1 _ rfl
 have y2 := ent_cell (ent_below EA.out hb2) 2 _ rfl
 have z0 := ent_cell (ent_below EB.out hb2) 0 _ rfl
 have z1 := ent_cell (ent_below EB.out hb2) 1 _ rfl
 have z2 := ent_cell (ent_below EB.out hb2) 2 _ rfl
 clear hb2 hraw hl hq hjd
 go_wp2_with fail
 refine HJD.out.mono ?_
 rintro e w3 ⟨lv, b, rfl, j1, j2, j3⟩
 have HW3 := Lib.hid (show Below w.heap.size w w3 from HB12.out.trans (j1.below (B := w.heap.size) HB12.out.size fun k hk => by have := HLW.out; have := HB1.out.size; omega))
 have HS3 := Lib.hid (HS.out.keep (HW3.out.block _ HSL.out) fun x hx => HW3.out.block _ (HUS.out x hx).1)
 clear y0 y1 y2 z0 z1 z2
 cases b with
 | false =>
   have HJ2 := Lib.hid (j2 rfl)
   clear j1 j2 j3
   go_wp2_with fail
   go_ret
   exact ⟨.of_below HW3.out, .inr ⟨rfl, HJ2.out, HS3.out⟩⟩
 | true =>
   obtain ⟨c, z, ps, kl, rep, pv, L, lo, c1, c2, c3, c4, c5, c6, c7, cu, c8, c9, g, l1, l2, l3, l4, p1, p2, p3, p4, p5, p6, _⟩ := j3 rfl
   have htl := tell_any (c.at z) (c8.at c9 z) 2 ps kl rep pv w3 (by omega) g (by rw [show (c.at z).sb = c.sb from rfl, c6]; exact c7)
   rw [show (c.at z).sb = c.sb from rfl, show (c.at z).gb = c.gb from rfl, show (c.at z).f = c.f from rfl, show (c.at z).U = c.U from rfl, c6, c1, c5] at htl
   have HTL := Lib.hid htl
   have HCU := Lib.hid (show llen c.U ≤ llen Us + ta.sz + tb.sz ∧ ∀ x ∈ c.U, x.1 < w3.heap.size ∧ x.1 ≠ sb from ⟨cu, fun x hx => ⟨(g.look.q x hx).1, c7 x hx⟩⟩)
   have HPP := Lib.hid (⟨g, l4, p1, p2, p6, c5⟩ : GSt (c.at z) 2 w3 ps kl rep pv ∧ _ ∧ _ ∧ _ ∧ _ ∧ c.f = f)
   clear j1 j2 j3 c1 c2 c3 c4 c5 c6 c7 cu g l1 l2 l3 l4 p1 p2 p3 p4 p5 p6 htl
   go_wp2_with fail
   refine HTL.out.mono ?_
   rintro e w4 ⟨rfl, t1, t2⟩
   have HT1 := Lib.hid t1; have HT2 := Lib.hid t2
   clear t1 t2
   go_wp2_with fail
   go_ret
   obtain ⟨g, l4, p1, p2, p6, c5⟩ := HPP.out
   have hinv := g.inv
   have htt := told_tells hinv
   rw [show (c.at z).f = f from c5] at hinv htt
   refine ⟨(Chg.of_below HW3.out).then HT2.out fun x hx hr => ?_, .inl ⟨rfl, told f (mkGr ps kl rep) ps.length, c.U, Ux.tells_fine hf hinv p1 p2 htt, fun σ => ?_, HT1.out, HCU.out.1, fun x hx => ⟨by have := (HCU.out.2 x hx).1; have := HT2.out.size; omega, (HCU.out.2 x hx).2⟩⟩⟩
   · rcases hr with hr | hr
     · exact hr
     · have := l4 x hr; have := HB12.out.size; omega
   · rw [← p6 σ]
     exact ⟨fun h => Ux.tells_one hinv p1 p2 htt h, fun h => Ux.tells_sol htt h⟩
end Go.Proofs.YtcblppojnailpaaDoor
namespace Go.Proofs.YtcblppojnailpaaDoor
open Go Go.RowKit
set_option linter.unusedVariables false
set_option linter.unusedSimpArgs false
theorem Ranked.grow {ps ps' : List Prt} {kl kl' : LKey → Option (List Nat)} {rep : Nat → Nat} {rk : Nat → Nat} (h : Ux.Ranked (mkGr ps kl rep) rk) (hg : Grow ps kl ps' kl') (hlen : ps'.length = ps.length) (hr : ∀ x, x < ps.length → rep x < ps.length) : Ux.Ranked (mkGr ps' kl' rep) rk := by
 refine ⟨fun i hi nm xs hD => ?_⟩
 have hi' : i < ps.length := by rw [← hlen]; exact hi
 have hD' : (mkGr ps' kl' rep).D (rep i) = .a nm xs := hD
 rw [hg.D (rep := rep) (rep' := rep) (hr i hi')] at hD'
 obtain ⟨ks, h1, h2⟩ := h.kids i hi' nm xs hD'
 refine ⟨ks, hg.kids (hr i hi') h1, fun c hc => ⟨?_, (h2 c hc).2⟩⟩
 show c < ps'.length
 rw [hlen]; exact (h2 c hc).1
/-- What Within answers. -/
def WiPost (f : Ux.Map) (sb : Nat) (Us : List LKey) (ta tb : Ux.Ty) (most : Nat) (w : World) (e : Ending) (w' : World) : Prop :=
 Chg (· = sb) w w' ∧ ((e = .returned (.int .i64 0) ∧ ∃ (f' : Ux.Map) (U' : List LKey), Ux.Fine f' ∧ (∀ σ, Ux.Sol f' σ ↔ (Ux.Sol f σ ∧ ta.app σ = tb.app σ)) ∧ SubAt (· ∈ U') w' sb f' ∧ llen U' ≤ llen Us + ta.sz + tb.sz ∧ (∀ x ∈ U', x.1 < w'.heap.size ∧ x.1 ≠ sb) ∧ ∀ N, Ux.Norm f' N → (ta.app N).sz ≤ most) ∨
  (e = .returned (.int .i64 5) ∧ SubAt (· ∈ Us) w' sb f ∧ ((∀ σ, ¬ (Ux.Sol f σ ∧ ta.app σ = tb.app σ)) ∨ ∃ f' : Ux.Map, Ux.Fine f' ∧ (∀ σ, Ux.Sol f' σ ↔ (Ux.Sol f σ ∧ ta.app σ = tb.app σ)) ∧ ∀ N, Ux.Norm f' N → most < (ta.app N).sz)))
set_option maxHeartbeats 4000000 in
set_option maxRecDepth 100000 in
theorem sWithin_any (f : Ux.Map) (hf : Ux.Fine f) (sb : Nat) (Us : List LKey) (ta tb : Ux.Ty) (va vB : Value) (most : Nat) (w : World) (hs : SubAt (· ∈ Us) w sb f) (hus : ∀ x ∈ Us, x.1 < w.heap.size ∧ x.1 ≠ sb) (hd : ∀ n, f n ≠ none → n < 1000000) (hta : TyQ (· ∈ Us) w va ta) (htb : TyQ (· ∈ Us) w vB tb) (hfew : llen Us + ta.sz + tb.sz ≤ 100000) (hm : most ≤ 1000000) :
 Calls Tryd.prog 25 #[.map (some sb), va, vB, .int .i64 (most : Int)] w (WiPost f sb Us ta tb most w) := by
 obtain ⟨ka, sa, qa, ma, ca, rfl⟩ := tyQ_sh hta
 obtain ⟨kb, sb', qb, mb', cb, rfl⟩ := tyQ_sh htb
 have HS := Lib.hid hs; have HUS := Lib.hid hus; have HTA := Lib.hid hta; have HTB := Lib.hid htb; have HFEW := Lib.hid hfew; have HD := Lib.hid hd
 clear hs hus hta htb hfew hd
 go_enter Tryd.func25, Tryd.ntmps25
 have HB1 := Lib.hid (show Below w.heap.size w ((w.alloc (.cells #[.int .i64 ka, .string sa, .slice qa ma ca] 30)).alloc (.cells #[.int .i64 kb, .string sb', .slice qb mb' cb] 30)) from ((Below.refl _ _).alloc (Nat.le_refl _) _).alloc (by simp) _)
 have EA := Lib.hid (ent_alloc (ent_new w #[.int .i64 ka, .string sa, .slice qa ma ca] 30) (.cells #[.int .i64 kb, .string sb', .slice qb mb' cb] 30))
 have EB := Lib.hid (ent_new (w.alloc (.cells #[.int .i64 ka, .string sa, .slice qa ma ca] 30)) #[.int .i64 kb, .string sb', .slice qb mb' cb] 30)
 rw [show (w.alloc (.cells #[.int .i64 ka, .string sa, .slice qa ma ca] 30)).heap.size = w.heap.size + 1 by simp] at EB
 go_upto_region 1 with fail
 generalize (w.alloc (.cells #[.int .i64 ka, .string sa, .slice qa ma ca] 30)).alloc (.cells #[.int .i64 kb, .string sb', .slice qb mb' cb] 30) = w1 at EA EB HB1 ⊢
 have hsl : sb < w.heap.size := by obtain ⟨L, h1, _⟩ := HS.out; exact h1.lt
 have hs1 := HS.out.keep (HB1.out.block _ hsl) fun x hx => HB1.out.block _ (HUS.out x hx).1
 have HSL := Lib.hid hsl
 clear hsl
 have hgc := graph_any (· ∈ Us) f sb w1 hs1 (fun x hx => by have := (HUS.out x hx).1; have := HB1.out.size; omega) HD.out
 have HGCL := Lib.hid hgc
 clear hs1 hgc
 go_wp2_with fail
 refine HGCL.out.mono ?_
 rintro e w2 ⟨fc, fb, sc, vb, lb, gb, rfl, hb2, hraw⟩
 have HB2 := Lib.hid hb2
 have HB12 := Lib.hid (HB1.out.trans (hb2.mono HB1.out.size))
 have hl := hraw.low
 have hq : ∀ x ∈ Us, x.1 ≠ gb ∧ x.1 ≠ vb ∧ x.1 ≠ lb ∧ x.1 ≠ fb := fun x hx => by have := (HUS.out x hx).1; have := HB1.out.size; omega
 have hjd := joined_any hf ta tb _ _ w2 hraw hq (fun x hx => (HUS.out x hx).2) (tyQ_keep HTA.out fun x hx => HB12.out.block _ (HUS.out x hx).1) (tyQ_keep HTB.out fun x hx => HB12.out.block _ (HUS.out x hx).1) HFEW.out
 have HJD := Lib.hid hjd
 have HLW := Lib.hid hl
 have HRW := Lib.hid hraw
 have y0 := ent_cell (ent_below EA.out hb2) 0 _ rfl
 have y1 := ent_cell (ent_below EA.out hb2) 1 _ rfl
 have y2 := ent_cell (ent_below EA.out hb2) 2 _ rfl
 have z0 := ent_cell (ent_below EB.out hb2) 0 _ rfl
 have z1 := ent_cell (ent_below EB.out hb2) 1 _ rfl
 have z2 := ent_cell (ent_below EB.out hb2) 2 _ rfl
 clear hb2 hraw hl hq hjd
 go_wp2_with fail
 refine HJD.out.mono ?_
 rintro e w3 ⟨lv, b, rfl, j1, j2, j3⟩
 have HW3 := Lib.hid (show Below w.heap.size w w3 from HB12.out.trans (j1.below (B := w.heap.size) HB12.out.size fun k hk => by have := HLW.out; have := HB1.out.size; omega))
 have HS3 := Lib.hid (HS.out.keep (HW3.out.block _ HSL.out) fun x hx => HW3.out.block _ (HUS.out x hx).1)
 clear y0 y1 y2 z0 z1 z2
 cases b with
 | false =>
   have HJ2 := Lib.hid (j2 rfl)
   clear j1 j2 j3
   go_wp2_with fail
   go_ret
   exact ⟨.of_below HW3.out, .inr ⟨rfl, HS3.out, .inl HJ2.out⟩⟩
 | true =>
   obtain ⟨c, z, ps, kl, rep, pv, L, lo, c1, c2, c3, c4, c5, c6, c7, cu, c8, c9, g, l1, l2, l3, l4, p1, p2, p3, p4, p5, p6, i, hi, hri, hDi, hR⟩ := j3 rfl
   obtain ⟨K, hK⟩ := g.bound p2
   have hrr : rep (rep i) = rep i := g.inv.rr i hi
   have hall : ∀ x ∈ L, _ := fun x hx => Rch.sz g p2 hK (hR x hx) (g.inv.rlt i hi) hrr
   obtain ⟨L0, hL0⟩ := last_is p4 hri fun x hx => (hall x hx).2.2
   obtain ⟨b, cp, cur, rfl, hb1, hb2, hb3, hb4, hb5⟩ := own_nums l1 rfl (List.length_pos_of_mem hri)
   have hgl : gb < w2.heap.size ∧ vb < w2.heap.size ∧ lb < w2.heap.size ∧ fb < w2.heap.size := by
    have := HLW.out; have h2 := ent_lt HRW.out.cell; omega
   have hsz := size_any (c.at z) (c8.at c9 z) c9 ps kl rep pv L L0 _ _ most b cp cur w3 g (g.szOk p3 p2 hK) hL0 (fun x hx => (hall x hx).2.1)
    ⟨by show b ≠ c.gb; omega, by show b ≠ c.vb; omega, by show b ≠ c.lb; omega, by show b ≠ c.fb; omega⟩ hb2 hb3 ⟨hb4, hb5⟩ hm
   rw [show (c.at z).gb = c.gb from rfl, c1] at hsz
   have hinv := g.inv
   have htt := told_tells hinv
   have hfd : (c.at z).f = f := c5
   rw [hfd] at hinv htt
   have hsol : ∀ σ, Ux.Sol (told f (mkGr ps kl rep) ps.length) σ ↔ (Ux.Sol f σ ∧ ta.app σ = tb.app σ) := fun σ => by
    rw [← p6 σ]
    exact ⟨fun h => Ux.tells_one hinv p1 p2 htt h, fun h => Ux.tells_sol htt h⟩
   have hfine := Ux.tells_fine hf hinv p1 p2 htt
   have hm0 : ∀ N, Ux.Norm (told f (mkGr ps kl rep) ps.length) N → (Ux.termN (mkGr ps kl rep) K (rep i)).sz = (ta.app N).sz := fun N hN => by
    have e1 : Ux.termN (mkGr ps kl rep) K (rep i) = Ux.termN (mkGr ps kl rep) K i := Ux.termN_rep hinv K i hi
    rw [e1, ← Ux.term_norm hinv p1 p2 hK htt hN hi, hDi N ((hsol N).1 hN.sol).1]
   have HSZ := Lib.hid hsz
   have HM0 := Lib.hid (⟨hfine, hsol, hm0⟩ : Ux.Fine (told f (mkGr ps kl rep) ps.length) ∧ (∀ σ, Ux.Sol (told f (mkGr ps kl rep) ps.length) σ ↔ (Ux.Sol f σ ∧ ta.app σ = tb.app σ)) ∧ ∀ N, Ux.Norm (told f (mkGr ps kl rep) ps.length) N → (Ux.termN (mkGr ps kl rep) K (rep i)).sz = (ta.app N).sz)
   have HCE := Lib.hid (⟨⟨c1, c2, c3, c4, c5, c6, c7⟩, cu, c8, c9⟩ : (c.gb = gb ∧ c.vb = vb ∧ c.lb = lb ∧ c.fb = fb ∧ c.f = f ∧ c.sb = sb ∧ ∀ x ∈ c.U, x.1 ≠ sb) ∧ llen c.U ≤ llen Us + ta.sz + tb.sz ∧ c.Ok ∧ Lows c)
   have HG := Lib.hid g
   have HPP := Lib.hid (⟨l4, p1, p2, p6⟩ : (∀ g, pv.ownBlock = some g → w2.heap.size ≤ g) ∧ Ux.Cong (mkGr ps kl rep) [] ∧ Ux.Ranked (mkGr ps kl rep) (fun x => L.idxOf x) ∧ ∀ σ, Ux.KS f (mkGr ps kl rep) σ ↔ (Ux.Sol f σ ∧ ta.app σ = tb.app σ))
   clear hsz hinv htt hsol hfine hm0 hfd hb1 hb2 hb3 hb4 hb5 hgl hL0 hall hrr hK j1 j2 j3 c1 c2 c3 c4 c5 c6 c7 cu c8 c9 g l1 l2 l3 l4 p1 p2 p3 p4 p5 p6 hi hri hDi hR
   go_wp2_with fail
   refine HSZ.out.mono ?_
   rintro e w4 ⟨r, bb, Z, ps4, kl4, pv4, rfl, s1, s2, g4, gr4, le4, ch4, lo4⟩
   have HW4 := Lib.hid (show Below w.heap.size w w4 from HW3.out.trans (ch4.below (B := w.heap.size) HW3.out.size fun k hk => by
    have h1 := HCE.out.1; have h2 := HLW.out; have h3 := HB1.out.size; have h4 := HB12.out.size
    rcases hk with hk | hk | hk | hk | hk
    · have : k = c.gb := hk; omega
    · have : k = c.vb := hk; omega
    · have : k = c.lb := hk; omega
    · have : k = c.fb := hk; omega
    · have := HPP.out.1 k hk; omega))
   have HS4 := Lib.hid (HS.out.keep (HW4.out.block _ HSL.out) fun x hx => HW4.out.block _ (HUS.out x hx).1)
   cases bb with
   | false =>
     have HS2 := Lib.hid (s2 rfl)
     clear s1 s2 g4 gr4 le4 ch4 lo4
     go_wp2_with fail
     go_ret
     exact ⟨.of_below HW4.out, .inr ⟨rfl, HS4.out, .inr ⟨_, HM0.out.1, HM0.out.2.1, fun N hN => by rw [← HM0.out.2.2 N hN]; exact HS2.out⟩⟩⟩
   | true =>
     have HS1 := Lib.hid (s1 rfl)
     have hfd : ((c.at z).at Z).f = f := HCE.out.1.2.2.2.2.1
     have hsd : ((c.at z).at Z).sb = sb := HCE.out.1.2.2.2.2.2.1
     have htl := tell_any ((c.at z).at Z) ((HCE.out.2.2.1.at HCE.out.2.2.2 z).at HCE.out.2.2.2 Z) 2 ps4 kl4 rep pv4 w4 (by omega) g4 (by rw [hsd]; exact HCE.out.1.2.2.2.2.2.2)
     rw [hsd, show ((c.at z).at Z).gb = c.gb from rfl, hfd, show ((c.at z).at Z).U = c.U from rfl, HCE.out.1.1] at htl
     have HTL := Lib.hid htl
     have HG4 := Lib.hid g4
     have HGR4 := Lib.hid (⟨gr4, le4⟩ : Grow ps kl ps4 kl4 ∧ ps4.length = ps.length)
     have HLO4 := Lib.hid (show ∀ g, pv4.ownBlock = some g → w.heap.size ≤ g from fun g hg => by
      have h4 := HB12.out.size; have h5 := HW3.out.size
      rcases lo4 with e | e
      · have := HPP.out.1 g (e ▸ hg); omega
      · have := e g hg; omega)
     clear s1 s2 g4 gr4 le4 ch4 lo4 htl hfd hsd
     go_wp2_with fail
     refine HTL.out.mono ?_
     rintro e w5 ⟨rfl, t1, t2⟩
     have HT1 := Lib.hid t1; have HT2 := Lib.hid t2
     clear t1 t2
     go_wp2_with fail
     go_ret
     have hinv := HG4.out.inv
     have htt := told_tells hinv
     rw [show ((c.at z).at Z).f = f from HCE.out.1.2.2.2.2.1] at hinv htt
     have hrl : ∀ x, x < ps.length → rep x < ps.length := fun x hx => HG.out.inv.rlt x hx
     have hcong := HGR4.out.1.cong (rep := rep) HG.out.outr hrl HPP.out.2.1
     have hrank := Ranked.grow HPP.out.2.2.1 HGR4.out.1 HGR4.out.2 hrl
     have hsol : ∀ σ, Ux.Sol (told f (mkGr ps4 kl4 rep) ps4.length) σ ↔ (Ux.Sol f σ ∧ ta.app σ = tb.app σ) := fun σ => by
      rw [← HPP.out.2.2.2 σ, ← HGR4.out.1.ks (f := f) HG.out.outr hrl σ]
      exact ⟨fun h => Ux.tells_one hinv hcong hrank htt h, fun h => Ux.tells_sol htt h⟩
     have hfine := Ux.tells_fine hf hinv hcong hrank htt
     refine ⟨(Chg.of_below HW4.out).then HT2.out fun x hx hr => ?_, .inl ⟨rfl, told f (mkGr ps4 kl4 rep) ps4.length, c.U, hfine, hsol, HT1.out, HCE.out.2.1, fun x hx => ⟨?_, HCE.out.1.2.2.2.2.2.2 x hx⟩, fun N hN => ?_⟩⟩
     · rcases hr with hr | hr
       · exact hr
       · have := HLO4.out x hr; omega
     · have := (HG4.out.look.q x hx).1; have := HT2.out.size; omega
     · obtain ⟨N2, hN2⟩ := HM0.out.1.norm
       have e1 := Ux.sz_canon (Ux.fine_like hfine HM0.out.1 hN hN2 (fun σ => (hsol σ).trans (HM0.out.2.1 σ).symm) ta)
       rw [e1, ← HM0.out.2.2 N2 hN2]
       exact HS1.out.1
end Go.Proofs.YtcblppojnailpaaDoor
namespace Go.Proofs.YtcblppojnailpaaDoor
open Go Go.RowKit
set_option linter.unusedVariables false
set_option linter.unusedSimpArgs false
/-- A pair of a variable and what it stands for. -/
def PairP (w : World) (z : Value) (p : Nat × Ux.Ty) : Prop := ∃ k s q m c, z = .agg #[.int .i64 p.1, .int .i64 k, .string s, .slice q m c] ∧ TyP w (.agg #[.int .i64 k, .string s, .slice q m c]) p.2
theorem applyL_take (L : Ux.Pairs) (t : Ux.Ty) (k : Nat) (p : Nat × Ux.Ty) (h : L[k]? = some p) : Ux.applyL (L.take (k + 1)) t = Ux.put p.1 p.2 (Ux.applyL (L.take k) t) := by
 unfold Ux.applyL
 rw [List.take_add_one, h]
 simp [List.foldl_append]
end Go.Proofs.YtcblppojnailpaaDoor
namespace Go.Proofs.YtcblppojnailpaaDoor
open Go Go.RowKit
set_option linter.unusedVariables false
set_option linter.unusedSimpArgs false
namespace Ux
theorem addUp_step {m a : Nat} {s : Nat} {r : List Nat} (h : a ≤ m) : addUp m a (s :: r) = addUp m (a + cut (m - a) s) r := by rw [addUp, if_pos h]
theorem addUp_end {m a : Nat} {r : List Nat} (h : ¬ a ≤ m) : addUp m a r = a := by
 cases r with
 | nil => rfl
 | cons s r => rw [addUp, if_neg h]
theorem drop_at {α : Type} {l : List α} {j : Nat} {x : α} (h : l[j]? = some x) : l.drop j = x :: l.drop (j + 1) := by
 have hl := (List.getElem?_eq_some_iff.1 h)
 rw [← List.getElem_cons_drop hl.1, hl.2]
theorem cut_big {m n : Nat} (h : m < n) : cut m n = m + 1 := by unfold cut; rw [if_neg (by omega)]
theorem cut_small {m n : Nat} (h : n ≤ m) : cut m n = n := by unfold cut; rw [if_pos h]
end Ux
def RPartsC (t : Ux.Ty) : Prop := ∀ (m : Nat) (v : Value) (w : World), TyP w v t → m ≤ 1000000 →
 Calls Tryd.prog 47 #[v, .int .i64 (m : Int)] w (fun e w' => e = .returned (.int .i64 ((Ux.cut m t.sz : Nat) : Int)) ∧ Below w.heap.size w w')
set_option maxHeartbeats 4000000 in
set_option maxRecDepth 100000 in
theorem refParts_any (t : Ux.Ty) : RPartsC t := by
 induction t using Ux.Ty.ind with
 | hv n =>
   intro m v w ht hm
   obtain ⟨s, q, j, c, rfl⟩ := tyP_v.1 ht
   have hn0 : decide ((n : Int) < 0) = false := by simp
   have HE : Hid (Ux.cut m (Ux.Ty.v n).sz = Ux.cut m 1) := Lib.hid (by rw [Ux.Ty.sz])
   rw [HE.out]
   clear ht
   go_enter Tryd.func47, Tryd.ntmps47
   have ET := Lib.hid (ent_new w #[.int .i64 n, .string s, .slice q j c] 30)
   have HB := Lib.hid (show Below w.heap.size w (w.alloc (.cells #[.int .i64 n, .string s, .slice q j c] 30)) from (Below.refl _ _).alloc (Nat.le_refl _) _)
   go_upto_region 1 with fail
   generalize w.alloc (.cells #[.int .i64 n, .string s, .slice q j c] 30) = w1 at ET HB ⊢
   have t0 := ent_cell ET.out 0 _ rfl
   go_wp2_with fail
   go_loopw [5, 6] (fun a i wr => a = .int .i64 1 ∧ i = .int .i64 0 ∧ wr = w1) (fun _ _ _ => 0)
   case atStart => exact ⟨rfl, rfl, rfl⟩
   case round =>
    obtain ⟨rfl, rfl, rfl⟩ := hrel
    by_cases h0 : m = 0
    · subst h0
      go_wp2_with fail
      go_ret
      exact ⟨rfl, HB.out⟩
    · have d1 : decide ((m : Int) < 1) = false := by simp; omega
      have HC := Lib.hid (Ux.cut_small (m := m) (n := 1) (by omega))
      go_wp2_with fail
      go_ret
      exact ⟨by rw [HC.out]; rfl, HB.out⟩
 | ha nm xs ih =>
   intro m v w ht hm
   obtain ⟨kt, av, hkt, rfl, hx, _⟩ := tyP_a.1 ht
   obtain ⟨q, cp, rfl⟩ := hx.len
   have HX := Lib.hid hx; have HIH := Lib.hid ih
   have HE := Lib.hid (Ux.cut_sz m nm xs)
   rw [← HE.out]
   obtain ⟨A, hA⟩ : ∃ A, A = Ux.addUp m 1 (xs.map Ux.Ty.sz) := ⟨_, rfl⟩
   rw [← hA]
   have HA := Lib.hid hA
   clear ht hx ih hA
   go_enter Tryd.func47, Tryd.ntmps47
   have ET := Lib.hid (ent_new w #[.int .i64 kt, .string ⟨nm.toArray⟩, .slice q xs.length cp] 30)
   have HB := Lib.hid (show Below w.heap.size w (w.alloc (.cells #[.int .i64 kt, .string ⟨nm.toArray⟩, .slice q xs.length cp] 30)) from (Below.refl _ _).alloc (Nat.le_refl _) _)
   go_upto_region 1 with fail
   generalize w.alloc (.cells #[.int .i64 kt, .string ⟨nm.toArray⟩, .slice q xs.length cp] 30) = w1 at ET HB ⊢
   obtain ⟨n0, hn0⟩ : ∃ n0, n0 = xs.length := ⟨_, rfl⟩
   rw [← hn0] at ET ⊢
   have HN := Lib.hid hn0
   clear hn0
   have dk : decide (kt < 0) = true := by simp; omega
   go_wp2_with fail
   go_loopw [5, 6] (fun av i wr => ∃ (j a : Nat), i = .int .i64 j ∧ av = .int .i64 a ∧ j ≤ n0 ∧ a ≤ 2 * m + 2 ∧ Hid (Ux.addUp m a ((xs.drop j).map Ux.Ty.sz) = A) ∧ Hid (wr.heap[w.heap.size]? = some (.cells #[.int .i64 kt, .string ⟨nm.toArray⟩, .slice q n0 cp] 30 (0, 0))) ∧ Hid (Below w.heap.size w wr)) (fun _ i _ => n0 - (intOf i).toNat)
   case atStart => exact ⟨0, 1, rfl, rfl, Nat.zero_le _, by omega, Lib.hid (by rw [List.drop_zero]; exact HA.out.symm), ET, HB⟩
   case round =>
    clear ET HB
    obtain ⟨j, a, rfl, rfl, hj, ha, HS, ET, HB⟩ := hrel
    have t0 := ent_cell ET.out 0 _ rfl
    have t1 := ent_cell ET.out 1 _ rfl
    have t2 := ent_cell ET.out 2 _ rfl
    by_cases hle : a ≤ m
    rotate_left
    · have d2 : decide ((a : Int) ≤ (m : Int)) = false := by simp; omega
      have d3 : decide ((m : Int) < (a : Int)) = true := by simp; omega
      have HC := Lib.hid (show Ux.cut m A = m + 1 by rw [← HS.out, Ux.addUp_end hle]; exact Ux.cut_big (by omega))
      by_cases hlt : j < n0
      · have d1 : decide ((j : Int) < (n0 : Int)) = true := by simp; omega
        go_wp2_with fail
        go_ret
        exact ⟨by rw [HC.out]; rfl, HB.out⟩
      · have d1 : decide ((j : Int) < (n0 : Int)) = false := by simp; omega
        go_wp2_with fail
        go_ret
        exact ⟨by rw [HC.out]; rfl, HB.out⟩
    have d2 : decide ((a : Int) ≤ (m : Int)) = true := by simp; omega
    by_cases hlt : j < n0
    · obtain ⟨x, hx1⟩ : ∃ x, xs[j]? = some x := ⟨_, List.getElem?_eq_getElem (by have := HN.out; omega)⟩
      have hmem := List.mem_of_getElem? hx1
      have HST := Lib.hid (show Ux.addUp m (a + Ux.cut (m - a) x.sz) ((xs.drop (j + 1)).map Ux.Ty.sz) = A by
       have := HS.out
       rw [Ux.drop_at hx1, List.map_cons, Ux.addUp_step hle] at this; exact this)
      rcases HX.out with ⟨h0, _⟩ | ⟨g, of, c', hv, g1, g2, g3⟩
      · rw [h0] at hx1; simp at hx1
      injection hv with hq1 hqq hq2
      clear hqq
      subst hq1; subst hq2
      obtain ⟨u, hu, _, hcell⟩ := g3 j x hx1
      obtain ⟨a0, a1, uq, un, uc, rfl⟩ := tyP_sh hu
      have up : ∀ j' z, (Value.agg #[.int .i64 a0, .string a1, .slice uq un uc]).cells[j']? = some z → wr.cell? ⟨g, of + j * 3 + j', none⟩ = some z := fun j' z hz => cell_up HB.out (hcell j' z hz)
      have x0 : wr.cell? ⟨g, of + j * 3, none⟩ = some (.int .i64 a0) := up 0 _ rfl
      have x1 : wr.cell? ⟨g, of + j * 3 + 1, none⟩ = some (.string a1) := up 1 _ rfl
      have x2 : wr.cell? ⟨g, of + j * 3 + 2, none⟩ = some (.slice uq un uc) := up 2 _ rfl
      have hk1 : (j : Int) < (n0 : Int) := by omega
      have hk2 : (n0 : Int) ≤ (cp : Int) := by have := HN.out; omega
      have hk3 := g2
      have d1 : decide ((j : Int) < (n0 : Int)) = true := by simp; omega
      have HC := Lib.hid (HIH.out x hmem (m - a) _ wr (tyP_below hu HB.out) (by omega))
      have HCL := Lib.hid (Ux.cut_le (m - a) x.sz)
      obtain ⟨S, hS⟩ : ∃ S, S = Ux.cut (m - a) x.sz := ⟨_, rfl⟩
      rw [← hS] at HC HST HCL
      have hsub : ((m - a : Nat) : Int) = (m : Int) - (a : Int) := by omega
      rw [hsub] at HC
      have hS1 : (S : Int) ≤ 1000001 := by have := HCL.out; omega
      have ha1 : (a : Int) ≤ 1000000 := by omega
      clear hsub hS up g1 g2 g3 hcell hu hx1 hmem
      go_wp2_with fail
      refine HC.out.mono ?_
      rintro e w2 ⟨rfl, hb2⟩
      have ET2 := Lib.hid (ent_below ET.out hb2)
      have HB2 := Lib.hid (HB.out.trans (hb2.mono HB.out.size))
      clear hb2 x0 x1 x2 t0 t1 t2
      go_wp2_with fail
      go_roundw
      case rel => exact ⟨j + 1, a + S, by go_num, by go_num, by omega, by have := HCL.out; omega, HST, ET2, HB2⟩
      case measure => simp [intOf]; omega
    · obtain rfl : j = n0 := by omega
      have d1 : decide ((j : Int) < (j : Int)) = false := by simp
      have HC := Lib.hid (show Ux.cut m A = a by
       have := HS.out
       rw [List.drop_of_length_le (by have := HN.out; omega)] at this
       rw [← this]; exact Ux.cut_small hle)
      have d3 : decide ((m : Int) < (a : Int)) = false := by simp; omega
      go_wp2_with fail
      go_ret
      exact ⟨by rw [HC.out]; rfl, HB.out⟩
end Go.Proofs.YtcblppojnailpaaDoor
