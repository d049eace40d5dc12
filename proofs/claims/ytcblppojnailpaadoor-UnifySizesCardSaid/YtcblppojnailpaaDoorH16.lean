/-
  The document's Unify.
-/
import Derived.Test.YtcblppojnailpaaDoorH12
import Derived.Test.YtcblppojnailpaaDoorH13
namespace Go.Proofs.YtcblppojnailpaaDoor
open Go Go.RowKit
set_option linter.unusedVariables false
set_option linter.unusedSimpArgs false
theorem four_cells (w : World) (a0 a1 a2 a3 : Value) (T : TypeId) (j : Nat) (u : Value) (h : ([a0, a1, a2, a3] : List Value)[j]? = some u) :
 (w.alloc (.cells #[a0, a1, a2, a3] T)).cell? ((⟨w.heap.size, 0, none⟩ : Addr).add j) = some u := by
 have e : (⟨w.heap.size, 0, none⟩ : Addr).add j = ⟨w.heap.size, j, none⟩ := by unfold Addr.add; split <;> simp_all
 rw [e]
 exact ent_cell (ent_new w #[a0, a1, a2, a3] T) j u (by simpa using h)
theorem cells_four (vs : List Value) (a0 a1 a2 a3 : Value) : cellsOf (vs ++ [.agg #[a0, a1, a2, a3]]) = cellsOf vs ++ [a0, a1, a2, a3] := by
 simp [cellsOf, Value.cells]
theorem pcell {w : World} {g of cp j : Nat} {L : Ux.Pairs} {x : Nat × Ux.Ty} (h : RowAt 4 (PairP w) w (.slice (some ⟨g, of, none⟩) L.length cp) L) (hx : L[j]? = some x) : w.cell? ⟨g, of + j * 4 + 0, none⟩ = some (.int .i64 x.1) := by
 rcases h with ⟨h0, _⟩ | ⟨g', of', c', hv, _, _, g3⟩
 · rw [h0] at hx; cases hx
 · injection hv with e1 _ _
   injection e1 with e1
   injection e1 with e4 e5 _
   subst e4; subst e5
   obtain ⟨z, ⟨k, s, q, m, c, rfl, _⟩, _, hc⟩ := g3 j x hx
   exact hc 0 _ rfl
theorem names_differ {a b : List UInt8} (h : ¬ a = b) : ((⟨a.toArray⟩ : ByteArray) == ⟨b.toArray⟩) = false := by
 cases hc : ((⟨a.toArray⟩ : ByteArray) == ⟨b.toArray⟩) with
 | false => rfl
 | true =>
   have e := (MapKept.bytes_beq _ _).1 hc
   injection e with e
   exact absurd (by simpa using e) h
theorem ent_oth3 {w : World} {g : Nat} {cs : Array Value} {T : TypeId} (h : w.heap[g]? = some (.cells cs T (0, 0))) (b : Nat) (hb : g ≠ b) (v0 v1 v2 : Value) : (((w.setCell ⟨b, 0, none⟩ v0).setCell ⟨b, 1, none⟩ v1).setCell ⟨b, 2, none⟩ v2).heap[g]? = some (.cells cs T (0, 0)) :=
 (((Below.heap_setCell _ ⟨b, 2, none⟩ _ g hb).trans (Below.heap_setCell _ ⟨b, 1, none⟩ _ g hb)).trans (Below.heap_setCell _ ⟨b, 0, none⟩ _ g hb)).trans h
theorem RowAt.lenIs {α : Type} {sz : Nat} {rep : Value → α → Prop} {w : World} {q : Option Addr} {n c : Nat} {xs : List α} (h : RowAt sz rep w (.slice q n c) xs) : n = xs.length := by
 obtain ⟨q', c', e⟩ := h.len
 injection e
theorem ty_row {u : World} {k : Int} {nm nm' : List UInt8} {v : Value} {xs : List Ux.Ty} (h : TyP u (.agg #[.int .i64 k, .string ⟨nm'.toArray⟩, v]) (.a nm xs)) : RowAt 3 (TyP u) u v xs := by
 obtain ⟨k', av, _, e, hx, _⟩ := tyP_a.1 h
 injection e with e
 simp at e
 rw [e.2.2]; exact hx
theorem ty_at {u : World} {q : Option Addr} {n c : Nat} {xs : List Ux.Ty} (h : RowAt 3 (TyP u) u (.slice q n c) xs) {j : Nat} {x : Ux.Ty} (hx : xs[j]? = some x) : ∃ g o, q = some ⟨g, o, none⟩ ∧ xs.length ≤ c ∧ (c : Int) ≤ 9223372036854775807 ∧ ∃ v s q' n' c', TyP u (.agg #[.int .i64 v, .string s, .slice q' n' c']) x ∧
 ∀ w', Below u.heap.size u w' → w'.cell? ⟨g, o + j * 3, none⟩ = some (.int .i64 v) ∧ w'.cell? ⟨g, o + j * 3 + 1, none⟩ = some (.string s) ∧ w'.cell? ⟨g, o + j * 3 + 2, none⟩ = some (.slice q' n' c') := by
 rcases h with ⟨h0, _⟩ | ⟨g, o, c', hv, h1, h2, h3⟩
 · rw [h0] at hx; cases hx
 · injection hv with e1 _ e2
   subst e1; subst e2
   obtain ⟨z, hz, _, hc⟩ := h3 j x hx
   obtain ⟨v, s, q', n', c', rfl⟩ := tyP_sh hz
   exact ⟨g, o, rfl, h1, h2, v, s, q', n', c', hz, fun w' hb => ⟨cell_up hb (hc 0 _ rfl), cell_up hb (hc 1 _ rfl), cell_up hb (hc 2 _ rfl)⟩⟩
set_option maxHeartbeats 4000000 in
set_option maxRecDepth 100000 in
theorem refUnify_any {S : Ux.Ty → Prop} {V : List Nat} (hok : Ux.SOk S V) : ∀ f, RUC S V f := by
 intro f
 induction f with
 | zero => intro L a b r lv va vB w h; cases h
 | succ f ih =>
 intro L a b r lv va vB w hr hi htr hoa hob hav hbv hl hta htb
 have HIH := Lib.hid ih; have HR0 := Lib.hid hr; have HI := Lib.hid hi; have HTR := Lib.hid htr
 have HL := Lib.hid hl
 obtain ⟨aa, hA⟩ : ∃ t, t = Ux.applyL L a := ⟨_, rfl⟩
 obtain ⟨bb, hB⟩ : ∃ t, t = Ux.applyL L b := ⟨_, rfl⟩
 have HEA := Lib.hid hA; have HEB := Lib.hid hB
 have HSA := Lib.hid (show aa.sz ≤ 893871739 by rw [hA]; exact hok.big hi htr hoa)
 have HSB := Lib.hid (show bb.sz ≤ 893871739 by rw [hB]; exact hok.big hi htr hob)
 have HEN := Lib.hid (fun p (hp : p ∈ L) => hok.entry hi htr hp)
 have HLL := Lib.hid (hok.few hi)
 have HOA := Lib.hid hoa; have HOB' := Lib.hid hob; have HAV := Lib.hid hav; have HBV := Lib.hid hbv
 obtain ⟨q, cp, rfl⟩ := hl.len
 obtain ⟨ka, sa, qa, ma, ca, rfl⟩ := tyP_sh hta
 obtain ⟨kb, sb, qb, mb, cb, rfl⟩ := tyP_sh htb
 have HTA := Lib.hid hta; have HTB := Lib.hid htb
 obtain ⟨i0, hi0, hq0, hq1, hq2⟩ := infoParts eltPair.inf
 have I0 := Lib.hid hi0; have I00 := Lib.hid hq0; have I01 := Lib.hid hq1; have I02 := Lib.hid hq2
 clear hr hi htr hoa hob hav hbv hl hta htb ih hA hB hi0 hq0 hq1 hq2
 go_enter Tryd.func14, Tryd.ntmps14
 have hEA := ent_alloc (ent_new w #[.int .i64 ka, .string sa, .slice qa ma ca] 30) (.cells #[.int .i64 kb, .string sb, .slice qb mb cb] 30)
 have hEB := ent_new (w.alloc (.cells #[.int .i64 ka, .string sa, .slice qa ma ca] 30)) #[.int .i64 kb, .string sb, .slice qb mb cb] 30
 rw [show (w.alloc (.cells #[.int .i64 ka, .string sa, .slice qa ma ca] 30)).heap.size = w.heap.size + 1 by simp] at hEB
 have hHB : Below w.heap.size w ((w.alloc (.cells #[.int .i64 ka, .string sa, .slice qa ma ca] 30)).alloc (.cells #[.int .i64 kb, .string sb, .slice qb mb cb] 30)) := ((Below.refl _ _).alloc (Nat.le_refl _) _).alloc (by simp) _
 go_upto_region 1 with fail
 have EA : Hid (((w.alloc (.cells #[.int .i64 ka, .string sa, .slice qa ma ca] 30)).alloc (.cells #[.int .i64 kb, .string sb, .slice qb mb cb] 30)).drew.heap[w.heap.size]? = some (.cells #[.int .i64 ka, .string sa, .slice qa ma ca] 30 (0, 0))) := Lib.hid hEA
 have EB : Hid (((w.alloc (.cells #[.int .i64 ka, .string sa, .slice qa ma ca] 30)).alloc (.cells #[.int .i64 kb, .string sb, .slice qb mb cb] 30)).drew.heap[w.heap.size + 1]? = some (.cells #[.int .i64 kb, .string sb, .slice qb mb cb] 30 (0, 0))) := Lib.hid hEB
 have HB := Lib.hid (show Below w.heap.size w ((w.alloc (.cells #[.int .i64 ka, .string sa, .slice qa ma ca] 30)).alloc (.cells #[.int .i64 kb, .string sb, .slice qb mb cb] 30)).drew from hHB.drew)
 have HS := Lib.hid (show w.heap.size + 2 ≤ ((w.alloc (.cells #[.int .i64 ka, .string sa, .slice qa ma ca] 30)).alloc (.cells #[.int .i64 kb, .string sb, .slice qb mb cb] 30)).drew.heap.size by show w.heap.size + 2 ≤ ((w.alloc (.cells #[.int .i64 ka, .string sa, .slice qa ma ca] 30)).alloc (.cells #[.int .i64 kb, .string sb, .slice qb mb cb] 30)).heap.size; simp)
 clear hEA hEB hHB
 refine wp_region_held_drew (S := fun (u : World) => Below w.heap.size w u ∧ w.heap.size + 2 ≤ u.heap.size) (by kernel_rfl) ⟨HB.out, HS.out⟩ (fun hHeld => ?_)
 generalize ((w.alloc (.cells #[.int .i64 ka, .string sa, .slice qa ma ca] 30)).alloc (.cells #[.int .i64 kb, .string sb, .slice qb mb cb] 30)).drew = wc at EA EB HB HS hHeld ⊢
 refine wpAnyH_take (i := 0) (v := .slice q L.length cp) rfl (by kernel_rfl) (by kernel_rfl) (by kernel_rfl) (fun _ _ _ h => h) (Or.inl ⟨by rfl, fun w' hSw => by go_simp⟩) hHeld ?_
 refine wpAnyH_take (i := 3) (v := .slice q L.length cp) rfl (by kernel_rfl) (by kernel_rfl) (by kernel_rfl) (fun _ _ _ h => h) (Or.inl ⟨by rfl, fun w' hSw => by go_simp⟩) hHeld ?_
 try simp only [Act.put, List.getElem_toArray, List.getElem_cons_succ, List.getElem_cons_zero, List.setIfInBounds_toArray, List.set_cons_zero, List.set_cons_succ]
 refine wpAnyH_ready (rs := [1, 4]) (by kernel_rfl) (by simp) ?_
 refine AllReadyH.cons rfl (fun K hK => ?_) (AllReadyH.cons rfl (fun K hK => ?_) AllReadyH.nil)
 · have t0 := ent_cell EA.out 0 _ rfl
   have t1 := ent_cell EA.out 1 _ rfl
   have t2 := ent_cell EA.out 2 _ rfl
   go_simp
   refine hK.out _ _ ⟨HB.out, HS.out⟩ (fun hHeld => ?_)
   clear hK K t0 t1 t2
   refine wpAnyH_ready (rs := [2, 4]) (by kernel_rfl) (by simp) ?_
   refine AllReadyH.cons rfl (fun K hK => ?_) (AllReadyH.cons rfl (fun K hK => ?_) AllReadyH.nil)
   · go_simp
     refine (applyB_any _ _ L a w.heap.size wc (by have := HS.out; omega) (pairs_up HL.out HB.out) ((tyP_hang HTA.out 0 0).same fun b hb => HB.out.block b (by omega)) (fun k => Nat.le_trans (Ux.app_take L a k) (by rw [← HEA.out]; have := HSA.out; omega))).mono ?_
     rintro e wy ⟨ra, rfl, hb, hh⟩
     rw [← HEA.out] at hh
     obtain ⟨ia, ta, pa, na, oa, rfl⟩ := tyP_sh hh.now
     have EAy := Lib.hid (ent_below EA.out hb); have EBy := Lib.hid (ent_below EB.out hb)
     have HBy := Lib.hid (HB.out.trans (hb.mono (by have := HS.out; omega)))
     have HSy := Lib.hid (show w.heap.size + 2 ≤ wy.heap.size by have := HS.out; have := hb.size; omega)
     have HHA := Lib.hid (hh.wide (Nat.le_refl _) (show w.heap.size + 2 ≤ wc.heap.size from HS.out) (Nat.le_refl _))
     clear hb hh EA EB HB HS
     have EA := EAy; have EB := EBy; have HB := HBy; have HS := HSy
     clear EAy EBy HBy HSy
     refine hK.out _ _ ⟨HB.out, HS.out⟩ (fun hHeld => ?_)
     clear hK K
     refine wpAnyH_ready (rs := [4]) (by kernel_rfl) (by simp) ?_
     refine AllReadyH.cons rfl (fun K hK => ?_) AllReadyH.nil
     have t0 := ent_cell EB.out 0 _ rfl
     have t1 := ent_cell EB.out 1 _ rfl
     have t2 := ent_cell EB.out 2 _ rfl
     go_simp
     refine hK.out _ _ ⟨HB.out, HS.out⟩ (fun hHeld => ?_)
     clear hK K t0 t1 t2
     refine wpAnyH_ready (rs := [5]) (by kernel_rfl) (by simp) ?_
     refine AllReadyH.cons rfl (fun K hK => ?_) AllReadyH.nil
     go_simp
     refine (applyB_any _ _ L b w.heap.size wy (by have := HS.out; omega) (pairs_up HL.out HB.out) ((tyP_hang HTB.out 0 0).same fun b hb => HB.out.block b (by omega)) (fun k => Nat.le_trans (Ux.app_take L b k) (by rw [← HEB.out]; have := HSB.out; omega))).mono ?_
     rintro e wz ⟨rb, rfl, hb, hh⟩
     rw [← HEB.out] at hh
     obtain ⟨ib, tb, pb, nb, ob, rfl⟩ := tyP_sh hh.now
     have EAy := Lib.hid (ent_below EA.out hb); have EBy := Lib.hid (ent_below EB.out hb)
     have HBy := Lib.hid (HB.out.trans (hb.mono (by have := HS.out; omega)))
     have HSy := Lib.hid (show w.heap.size + 2 ≤ wz.heap.size by have := HS.out; have := hb.size; omega)
     have HHB := Lib.hid (hh.wide (Nat.le_refl _) (show w.heap.size + 2 ≤ wy.heap.size from HS.out) (Nat.le_refl _))
     have HHAy := Lib.hid (HHA.out.same (w' := wz) fun b hb' => hb.block b (by have := HS.out; omega))
     have HZY := Lib.hid hb.size
     clear hb hh EA EB HB HS HHA
     have EA := EAy; have EB := EBy; have HB := HBy; have HS := HSy; have HHA := HHAy
     clear EAy EBy HBy HSy HHAy
     refine hK.out _ _ ⟨HB.out, HS.out⟩ (fun hHeld => ?_)
     clear hK K
     refine wpAnyH_ready (rs := [6]) (by kernel_rfl) (by simp) ?_
     refine AllReadyH.cons rfl (fun K hK => ?_) AllReadyH.nil
     have t0 := ent_cell EA.out 0 _ rfl
     have t1 := ent_cell EA.out 1 _ rfl
     have t2 := ent_cell EA.out 2 _ rfl
     have tf := ent_free EA.out
     go_simp
     clear t0 t1 t2 tf
     have HKu : Hid (∀ b, b ≠ w.heap.size → (((wz.setCell ⟨w.heap.size, 0, none⟩ (.int .i64 ia)).setCell ⟨w.heap.size, 1, none⟩ (.string ta)).setCell ⟨w.heap.size, 2, none⟩ (.slice pa na oa)).heap[b]? = wz.heap[b]?) := Lib.hid (fun b hb => ((Below.heap_setCell _ ⟨w.heap.size, 2, none⟩ _ b hb).trans (Below.heap_setCell _ ⟨w.heap.size, 1, none⟩ _ b hb)).trans (Below.heap_setCell _ ⟨w.heap.size, 0, none⟩ _ b hb))
     have HZu : Hid ((((wz.setCell ⟨w.heap.size, 0, none⟩ (.int .i64 ia)).setCell ⟨w.heap.size, 1, none⟩ (.string ta)).setCell ⟨w.heap.size, 2, none⟩ (.slice pa na oa)).heap.size = wz.heap.size) := Lib.hid (by simp)
     have EAu := Lib.hid (ent_set3 EA.out (.int .i64 ia) (.string ta) (.slice pa na oa))
     have HBu := Lib.hid (below_set3 HB.out w.heap.size (Nat.le_refl _) (.int .i64 ia) (.string ta) (.slice pa na oa))
     refine hK.out _ _ ⟨HBu.out, by rw [HZu.out]; exact HS.out⟩ (fun hHeld => ?_)
     clear hK K
     generalize (((wz.setCell ⟨w.heap.size, 0, none⟩ (.int .i64 ia)).setCell ⟨w.heap.size, 1, none⟩ (.string ta)).setCell ⟨w.heap.size, 2, none⟩ (.slice pa na oa)) = wu at HKu HZu EAu HBu hHeld ⊢
     have EBu := Lib.hid ((HKu.out (w.heap.size + 1) (by omega)).trans EB.out)
     refine wpAnyH_ready (rs := [7]) (by kernel_rfl) (by simp) ?_
     refine AllReadyH.cons rfl (fun K hK => ?_) AllReadyH.nil
     have t0 := ent_cell EBu.out 0 _ rfl
     have t1 := ent_cell EBu.out 1 _ rfl
     have t2 := ent_cell EBu.out 2 _ rfl
     have tf := ent_free EBu.out
     go_simp
     clear t0 t1 t2 tf
     have HKv : Hid (∀ b, b ≠ w.heap.size + 1 → (((wu.setCell ⟨w.heap.size + 1, 0, none⟩ (.int .i64 ib)).setCell ⟨w.heap.size + 1, 1, none⟩ (.string tb)).setCell ⟨w.heap.size + 1, 2, none⟩ (.slice pb nb ob)).heap[b]? = wu.heap[b]?) := Lib.hid (fun b hb => ((Below.heap_setCell _ ⟨w.heap.size + 1, 2, none⟩ _ b hb).trans (Below.heap_setCell _ ⟨w.heap.size + 1, 1, none⟩ _ b hb)).trans (Below.heap_setCell _ ⟨w.heap.size + 1, 0, none⟩ _ b hb))
     have HZv : Hid ((((wu.setCell ⟨w.heap.size + 1, 0, none⟩ (.int .i64 ib)).setCell ⟨w.heap.size + 1, 1, none⟩ (.string tb)).setCell ⟨w.heap.size + 1, 2, none⟩ (.slice pb nb ob)).heap.size = wu.heap.size) := Lib.hid (by simp)
     have EBv := Lib.hid (ent_set3 EBu.out (.int .i64 ib) (.string tb) (.slice pb nb ob))
     have HBv := Lib.hid (below_set3 HBu.out (w.heap.size + 1) (by omega) (.int .i64 ib) (.string tb) (.slice pb nb ob))
     refine hK.out _ _ ⟨HBv.out, by rw [HZv.out, HZu.out]; exact HS.out⟩ (fun hHeld => ?_)
     clear hK K
     refine wpAnyH_done (by kernel_rfl) ?_ _
     generalize (((wu.setCell ⟨w.heap.size + 1, 0, none⟩ (.int .i64 ib)).setCell ⟨w.heap.size + 1, 1, none⟩ (.string tb)).setCell ⟨w.heap.size + 1, 2, none⟩ (.slice pb nb ob)) = wv at HKv HZv EBv HBv ⊢
     have EAv := Lib.hid ((HKv.out w.heap.size (by omega)).trans EAu.out)
     have HSv := Lib.hid (show w.heap.size + 2 ≤ wv.heap.size by rw [HZv.out, HZu.out]; exact HS.out)
     have HAv := Lib.hid ((HHA.out.same (w' := wv) fun b hb => (HKv.out b (by omega)).trans (HKu.out b (by omega))).wide (Nat.le_refl _) (Nat.le_refl _) (show _ ≤ wv.heap.size by rw [HZv.out, HZu.out]; exact HZY.out))
     have HTv := Lib.hid ((HHB.out.same (w' := wv) fun b hb => (HKv.out b (by omega)).trans (HKu.out b (by omega))).wide (Nat.le_refl _) (Nat.le_refl _) (show _ ≤ wv.heap.size by rw [HZv.out, HZu.out]; exact Nat.le_refl _))
     clear HKu HZu EAu HBu EBu HKv HZv EA EB HB HS HHA HHB HZY hHeld
     obtain ⟨n, haa⟩ | ⟨nm, xs, haa⟩ : (∃ n, aa = .v n) ∨ ∃ nm xs, aa = .a nm xs := by
      cases aa with
      | v n => exact .inl ⟨n, rfl⟩
      | a nm xs => exact .inr ⟨nm, xs, rfl⟩
     · subst haa
       obtain ⟨s9, q9, j9, c9, hva⟩ := tyP_v.1 HAv.out.now
       have hia : ia = (n : Int) := by injection hva with hva; simp at hva; exact hva.1
       subst hia
       clear hva
       have d1 : decide ((n : Int) < 0) = false := by simp
       have d2 : decide ((0 : Int) ≤ (n : Int)) = true := by simp
       have t0 := ent_cell EAv.out 0 _ rfl
       have t1 := ent_cell EAv.out 1 _ rfl
       have t2 := ent_cell EAv.out 2 _ rfl
       have u0 := ent_cell EBv.out 0 _ rfl
       have u1 := ent_cell EBv.out 1 _ rfl
       have u2 := ent_cell EBv.out 2 _ rfl
       by_cases hib : ib = (n : Int)
       · have hbb : bb = .v n := by
          rcases bb with m | ⟨nm, ys⟩
          · obtain ⟨s8, q8, j8, c8, hvb⟩ := tyP_v.1 HTv.out.now
            have : ib = (m : Int) := by injection hvb with hvb; simp at hvb; exact hvb.1
            have : m = n := by omega
            rw [this]
          · obtain ⟨kt, av, hkt, hvb, _⟩ := tyP_a.1 HTv.out.now
            have : ib = kt := by injection hvb with hvb; simp at hvb; exact hvb.1
            omega
         subst hib
         go_wp2_with fail
         go_ret2
         have hr : r = some L := by
          rcases Ux.refU_var HR0.out HEA.out.symm with ⟨_, h⟩ | ⟨h, _⟩
          · exact h
          · exact absurd (HEB.out.symm.trans hbb) h
         subst hr
         exact ⟨_, rfl, HBv.out, fun L' e => by injection e with e; rw [← e]; exact pairs_below HL.out HBv.out⟩
       · have d3 : (ib == (n : Int)) = false := by simp [hib]
         have HR : Hid (r = Ux.headU L n bb) := Lib.hid (by
          rcases Ux.refU_var HR0.out HEA.out.symm with ⟨h, _⟩ | ⟨_, h⟩
          · exfalso
            have hbb : bb = .v n := HEB.out.trans h
            rw [hbb] at HTv
            obtain ⟨s8, q8, j8, c8, hvb⟩ := tyP_v.1 HTv.out.now
            exact hib (by injection hvb with hvb; simp at hvb; exact hvb.1)
          · rw [HEB.out]; exact h)
         have EAs := EAv; have EBs := EBv; have HBs := HBv; have HSs := HSv; have HTs := HTv
         clear EAv EBv HBv HSv HTv HAv
         obtain ⟨wS, hwS⟩ : ∃ wS, wS = wv := ⟨_, rfl⟩
         subst hwS
         go_wp2_with fail
         refine (refHas_ty bb _ n wS HTs.out.now).mono ?_
         rintro e wn ⟨rfl, hbn⟩
         have HBs2 := Lib.hid (HBs.out.trans (hbn.mono HBs.out.size))
         have EAn := Lib.hid (ent_below EAs.out hbn); have EBn := Lib.hid (ent_below EBs.out hbn)
         have HTn := Lib.hid (HTs.out.same (w' := wn) fun b hb => hbn.block b (by have := HSs.out; omega))
         have HSn := Lib.hid (show w.heap.size + 2 ≤ wn.heap.size by have := HSs.out; have := hbn.size; omega)
         clear hbn HBs EAs EBs HTs HSs d1 d2 d3
         clear t0 t1 t2 u0 u1 u2
         by_cases hc : Ux.hasT bb n = true
         · rw [hc]
           go_wp2_with fail
           go_ret2
           have hr := HR.out
           rw [Ux.headU_none hc] at hr
           subst hr
           exact ⟨_, rfl, HBs2.out, fun L' e => by cases e⟩
         have hcf : Ux.hasT bb n = false := by simpa using hc
         rw [hcf]
         have HR2 := Lib.hid (HR.out.trans (Ux.headU_some hc))
         clear HR hc hcf
         have HTH := Lib.hid (tyP_hang HTn.out.now 0 0)
         have HO0 : Hid (wn.ownsRow wn.heap.size 71 4 (.slice none 0 0) 0 (cellsOf [])) := Lib.hid (own_none _ _ _ _ (Nat.le_refl _))
         go_wp2_with fail
         go_loopw [8, 9] (fun ov i wr => ∃ (j : Nat) (vs : List Value), i = .int .i64 j ∧ j ≤ L.length ∧ Hid (vs.length = j ∧ Reps (KeptH PairP wn.heap.size wn.heap.size wr ov.ownBlock) vs ((L.take j).map fun p => (p.1, Ux.put n bb p.2)) ∧ ∀ z ∈ vs, z.cells.size = 4) ∧ Hid (wr.ownsRow wn.heap.size 71 4 ov j (cellsOf vs)) ∧ Hid (Below wn.heap.size wn wr)) (fun _ i _ => L.length - (intOf i).toNat)
         case atStart => exact ⟨0, [], rfl, Nat.zero_le _, Lib.hid ⟨rfl, trivial, fun _ h => by cases h⟩, HO0, Lib.hid (Below.refl _ _)⟩
         case round =>
          clear HO0
          obtain ⟨j, vs, rfl, hj, HR1, HO, HBN⟩ := hrel
          obtain ⟨pa1, ca1, rfl⟩ := own_slice HO.out
          have hll := HLL.out
          by_cases hlt : j < L.length
          · obtain ⟨x, hx1⟩ : ∃ x, L[j]? = some x := ⟨_, List.getElem?_eq_getElem hlt⟩
            have HTK : Hid ((L.take (j + 1)).map (fun p => (p.1, Ux.put n bb p.2)) = (L.take j).map (fun p => (p.1, Ux.put n bb p.2)) ++ [(x.1, Ux.put n bb x.2)]) := Lib.hid (by rw [List.take_add_one, hx1]; simp)
            have HSX : Hid (x.2.sz ≤ 50000000000) := Lib.hid (by have := HEN.out x (List.mem_of_getElem? hx1); omega)
            have HBW := Lib.hid (HBs2.out.trans (HBN.out.mono HBs2.out.size))
            rcases pairs_below HL.out HBW.out with ⟨h0, _⟩ | ⟨g, of, c', hv, g1, g2, g3⟩
            · rw [h0] at hlt; simp at hlt
            injection hv with hq1 _ hq2
            subst hq1; subst hq2
            obtain ⟨z, ⟨e0, e1, zq, zn, zc, rfl, hty⟩, _, hcell⟩ := g3 j x hx1
            have HTY := Lib.hid (show Hang TyP wr.heap.size 0 0 wr.drew (.agg #[.int .i64 e0, .string e1, .slice zq zn zc]) x.2 from (tyP_hang hty 0 0).same fun b hb => rfl)
            have HTH := Lib.hid (HTH.out.same (w' := wr.drew) fun b hb => HBN.out.drew.block b (by omega))
            have hglt : g < wn.heap.size := by have h1 := World.block_lt_of_cell? w _ (pcell HL.out hx1); have h2 := HSn.out; dsimp only at h1; omega
            have HCL := Lib.hid (fun (w' : World) (h : Below wn.heap.size wr w') =>
             have up : ∀ j' z', (Value.agg #[.int .i64 x.1, .int .i64 e0, .string e1, .slice zq zn zc]).cells[j']? = some z' → w'.cell? ⟨g, of + j * 4 + j', none⟩ = some z' := fun j' z' hz' => (h.cell (p := ⟨g, of + j * 4 + j', none⟩) hglt).trans (hcell j' z' hz')
             (show w'.cell? ⟨g, of + j * 4, none⟩ = some (.int .i64 x.1) ∧ w'.cell? ⟨g, of + j * 4 + 1, none⟩ = some (.int .i64 e0) ∧ w'.cell? ⟨g, of + j * 4 + 2, none⟩ = some (.string e1) ∧ w'.cell? ⟨g, of + j * 4 + 3, none⟩ = some (.slice zq zn zc) from ⟨up 0 _ rfl, up 1 _ rfl, up 2 _ rfl, up 3 _ rfl⟩))
            have hk1 : (j : Int) < (L.length : Int) := by omega
            have hk2 : (L.length : Int) ≤ (cp : Int) := by omega
            have hk3 := g2
            have hk4 : (j : Int) ≤ 6 := by omega
            clear g1 g2 g3 hcell hx1 hty hglt
            go_upto_region 13 with fail
            refine wp_region_held_drew (S := fun (u : World) => Below wn.heap.size wr u) (by kernel_rfl) ((Below.refl _ _).drew) (fun hHeld => ?_)
            refine wpAnyH_take (i := 0) (v := .slice pa1 j ca1) rfl (by kernel_rfl) (by kernel_rfl) (by kernel_rfl) (fun _ _ _ h => h) (Or.inl ⟨by rfl, fun w' hSw => by go_simp⟩) hHeld ?_
            refine wpAnyH_take (i := 1) (v := .slice (some ⟨g, of, none⟩) L.length cp) rfl (by kernel_rfl) (by kernel_rfl) (by kernel_rfl) (fun _ _ _ h => h) (Or.inl ⟨by rfl, fun w' hSw => by go_simp⟩) hHeld ?_
            refine wpAnyH_take (i := 2) (v := .int .i64 j) rfl (by kernel_rfl) (by kernel_rfl) (by kernel_rfl) (fun _ _ _ h => h) (Or.inl ⟨by rfl, fun w' hSw => by go_simp⟩) hHeld ?_
            refine wpAnyH_take (i := 3) (v := .pointer (some ⟨g, of + j * 4, none⟩)) rfl (by kernel_rfl) (by kernel_rfl) (by kernel_rfl) (fun _ _ _ h => h) (Or.inl ⟨by rfl, fun w' hSw => by go_simp⟩) hHeld ?_
            refine wpAnyH_take (i := 4) (v := .pointer (some ⟨g, of + j * 4, none⟩)) rfl (by kernel_rfl) (by kernel_rfl) (by kernel_rfl) (fun _ _ _ h => h) (Or.inl ⟨by rfl, fun w' hSw => by go_simp⟩) hHeld ?_
            refine wpAnyH_take (i := 5) (v := .int .i64 x.1) rfl (by kernel_rfl) (by kernel_rfl) (by kernel_rfl) (fun _ _ _ h => h) (Or.inl ⟨by rfl, fun w' hSw => by obtain ⟨x0, x1, x2, x3⟩ := HCL.out w' hSw; go_simp⟩) hHeld ?_
            refine wpAnyH_take (i := 6) (v := .slice (some ⟨g, of, none⟩) L.length cp) rfl (by kernel_rfl) (by kernel_rfl) (by kernel_rfl) (fun _ _ _ h => h) (Or.inl ⟨by rfl, fun w' hSw => by go_simp⟩) hHeld ?_
            refine wpAnyH_take (i := 7) (v := .int .i64 j) rfl (by kernel_rfl) (by kernel_rfl) (by kernel_rfl) (fun _ _ _ h => h) (Or.inl ⟨by rfl, fun w' hSw => by go_simp⟩) hHeld ?_
            refine wpAnyH_take (i := 8) (v := .pointer (some ⟨g, of + j * 4, none⟩)) rfl (by kernel_rfl) (by kernel_rfl) (by kernel_rfl) (fun _ _ _ h => h) (Or.inl ⟨by rfl, fun w' hSw => by go_simp⟩) hHeld ?_
            refine wpAnyH_take (i := 9) (v := .pointer (some ⟨g, of + j * 4 + 1, none⟩)) rfl (by kernel_rfl) (by kernel_rfl) (by kernel_rfl) (fun _ _ _ h => h) (Or.inl ⟨by rfl, fun w' hSw => by go_simp⟩) hHeld ?_
            refine wpAnyH_take (i := 10) (v := .agg #[.int .i64 e0, .string e1, .slice zq zn zc]) rfl (by kernel_rfl) (by kernel_rfl) (by kernel_rfl) (fun _ _ _ h => h) (Or.inl ⟨by rfl, fun w' hSw => by obtain ⟨x0, x1, x2, x3⟩ := HCL.out w' hSw; go_simp⟩) hHeld ?_
            refine wpAnyH_take (i := 11) (v := .pointer (some ⟨w.heap.size, 0, none⟩)) rfl (by kernel_rfl) (by kernel_rfl) (by kernel_rfl) (fun _ _ _ h => h) (Or.inl ⟨by rfl, fun w' hSw => by go_simp⟩) hHeld ?_
            refine wpAnyH_take (i := 12) (v := .int .i64 n) rfl (by kernel_rfl) (by kernel_rfl) (by kernel_rfl) (fun _ _ _ h => h) (Or.inl ⟨by rfl, fun w' hSw => by have h0 := ent_cell (ent_below EAn.out (HBN.out.trans hSw)) 0 _ rfl; go_simp⟩) hHeld ?_
            refine wpAnyH_take (i := 13) (v := .agg #[.int .i64 ib, .string tb, .slice pb nb ob]) rfl (by kernel_rfl) (by kernel_rfl) (by kernel_rfl) (fun _ _ _ h => h) (Or.inl ⟨by rfl, fun w' hSw => by have h0 := ent_cell (ent_below EBn.out (HBN.out.trans hSw)) 0 _ rfl; have h1 := ent_cell (ent_below EBn.out (HBN.out.trans hSw)) 1 _ rfl; have h2 := ent_cell (ent_below EBn.out (HBN.out.trans hSw)) 2 _ rfl; go_simp⟩) hHeld ?_
            try simp only [Act.put, List.getElem_toArray, List.getElem_cons_succ, List.getElem_cons_zero, List.setIfInBounds_toArray, List.set_cons_zero, List.set_cons_succ]
            refine wpAnyH_ready (rs := [14]) (by kernel_rfl) (by simp) ?_
            refine AllReadyH.cons rfl (fun K hK => ?_) AllReadyH.nil
            go_simp
            refine (put_any _ _ _ bb n wn.heap.size wr.drew HBN.out.size HTY.out.now HTH.out HSX.out).mono ?_
            rintro e w5 ⟨rr, rfl, hb5, hh5⟩
            replace hb5 := undrew hb5
            obtain ⟨b0, b1, rq, rn, rc, rfl⟩ := tyP_sh hh5.now
            have HB5 := Lib.hid hb5
            have HH5 : Hid (Hang TyP wn.heap.size wr.heap.size w5.heap.size w5 (.agg #[.int .i64 b0, .string b1, .slice rq rn rc]) (Ux.put n bb x.2)) := Lib.hid hh5
            have HO5 := Lib.hid (own_kept HO.out hb5)
            clear hb5 hh5
            refine hK.out _ _ (HB5.out.mono HBN.out.size) (fun hHeld => ?_)
            clear hK K
            refine wpAnyH_ready (rs := [15]) (by kernel_rfl) (by simp) ?_
            refine AllReadyH.cons rfl (fun K hK => ?_) AllReadyH.nil
            go_simp
            refine hK.out _ _ (HB5.out.mono HBN.out.size) (fun hHeld => ?_)
            clear hK K
            refine wpAnyH_ready (rs := [16]) (by kernel_rfl) (by simp) ?_
            refine AllReadyH.cons rfl (fun K hK => ?_) AllReadyH.nil
            go_simp
            refine hK.out _ _ ((HB5.out.mono HBN.out.size).alloc (Nat.le_trans HBN.out.size HB5.out.size) _) (fun hHeld => ?_)
            clear hK K
            refine wpAnyH_ready (rs := [17]) (by kernel_rfl) (by simp) ?_
            refine AllReadyH.cons rfl (fun K hK => ?_) AllReadyH.nil
            refine step_append_loc rfl (.tmp 48) (.tmp 64) 27 rfl wn.heap.size 71 i0 (.agg #[.int .i64 0, .int .i64 0, .string ⟨#[]⟩, .slice none 0 0]) 4 56 Tryd.underlying27 I0.out I00.out I01.out I02.out rfl (by decide) _ j _ rfl (HO5.out.alloc _) ⟨w5.heap.size, 0, none⟩ 1 1 [.int .i64 x.1, .int .i64 b0, .string b1, .slice rq rn rc] rfl (by decide) rfl ?c1 ?c2 ?c3 ?c4 ?c5 ?_
            case c1 => exact fun jj u h => four_cells w5 _ _ _ _ _ jj u h
            case c2 => intro u hu; simp only [List.mem_cons, List.not_mem_nil, or_false] at hu; rcases hu with rfl | rfl | rfl | rfl <;> rfl
            case c3 => unfold maxLen; have := HLL.out; omega
            case c4 => have := HLL.out; omega
            case c5 => have h1 := HBN.out.size; have h2 := HB5.out.size; simp; omega
            intro v6 w6 hown hgr hloc
            obtain ⟨p6, c6, rfl⟩ := own_slice hown
            have hob : ∀ kk, (Value.slice pa1 j ca1).ownBlock = some kk → wn.heap.size ≤ kk := fun kk hkk => (HO5.out.lt kk hkk).1
            have HS56 : Hid (w5.heap.size ≤ w6.heap.size) := Lib.hid (by have := hgr.size; simp at this; omega)
            have HK6 : Hid (∀ b, b < w5.heap.size → (Value.slice pa1 j ca1).ownBlock ≠ some b → w6.heap[b]? = w5.heap[b]?) := Lib.hid (fun b hb hne => (hgr.block b (by simp; omega) (fun e => hne e.symm)).trans (Below.heap_alloc w5 _ b hb))
            have HOB := Lib.hid hob
            have HLOC : Hid ((Value.slice p6 (j + 1) c6).ownBlock = (Value.slice pa1 j ca1).ownBlock ∨ ∀ g, (Value.slice p6 (j + 1) c6).ownBlock = some g → w5.heap.size ≤ g) := Lib.hid (hloc.imp id fun h g hg => by have := h g hg; simp at this; omega)
            have HS6 : Hid (Below wn.heap.size wr w6) := Lib.hid (((HB5.out.mono (B' := wn.heap.size) HBN.out.size).alloc (Nat.le_trans HBN.out.size HB5.out.size) _).grown hgr (by have h1 := HBN.out.size; have h2 := HB5.out.size; simp; omega) (fun kk hkk => hob kk hkk))
            rw [← cells_four] at hown
            have HO6 := Lib.hid hown
            clear hown hgr hloc hob
            refine hK.out _ _ HS6.out (fun hHeld => ?_)
            clear hK K
            refine wpAnyH_take (i := 18) (v := .slice p6 (j + 1) c6) rfl (by kernel_rfl) (by kernel_rfl) (by kernel_rfl) (fun _ _ _ h => h) (Or.inl ⟨by rfl, fun w' hSw => by go_simp⟩) hHeld ?_
            simp only [Act.put, List.getElem_toArray, List.getElem_cons_succ, List.getElem_cons_zero, List.setIfInBounds_toArray, List.set_cons_zero, List.set_cons_succ]
            refine wpAnyH_done (by kernel_rfl) ?_ _
            clear hHeld
            have HR7 : Hid ((vs ++ [Value.agg #[.int .i64 x.1, .int .i64 b0, .string b1, .slice rq rn rc]]).length = j + 1 ∧ Reps (KeptH PairP wn.heap.size wn.heap.size w6 (Value.slice p6 (j + 1) c6).ownBlock) (vs ++ [Value.agg #[.int .i64 x.1, .int .i64 b0, .string b1, .slice rq rn rc]]) ((L.take (j + 1)).map fun p => (p.1, Ux.put n bb p.2)) ∧ ∀ z ∈ vs ++ [Value.agg #[.int .i64 x.1, .int .i64 b0, .string b1, .slice rq rn rc]], z.cells.size = 4) := Lib.hid (by
             obtain ⟨f1, f2, f3⟩ := HR1.out
             refine ⟨by simp [f1], ?_, fun z hz => (List.mem_append.1 hz).elim (f3 z) (fun h => by rw [List.mem_singleton.1 h]; rfl)⟩
             rw [HTK.out]
             have hs := HBN.out.size
             have hs5 := HB5.out.size
             refine Reps.snoc ?_ (f2.mono fun z y hzy => ?_)
             · refine KeptH.step (ob := (Value.slice pa1 j ca1).ownBlock) ⟨wr.heap.size, w5.heap.size, hs, Nat.le_refl _, fun g hg => .inl (HO.out.lt g hg).2, fun u hu => ⟨_, _, _, _, _, rfl, HH5.out u hu⟩⟩ HS56.out (by omega) (fun b h1 h2 h3 => HK6.out b h2 h3) HOB.out HLOC.out
             · refine KeptH.step (ob := (Value.slice pa1 j ca1).ownBlock) (hzy.step hs5 (by omega) (fun b _ h2 _ => HB5.out.block b h2) HOB.out (.inl rfl)) HS56.out (by omega) (fun b h1 h2 h3 => HK6.out b h2 h3) HOB.out HLOC.out)
            have HBN6 := Lib.hid (HBN.out.trans HS6.out)
            clear HR1 HO HB5 HH5 HO5 HS56 HK6 HOB HLOC HS6 HBN HCL HTY HBW
            go_wp2_with fail
            go_roundw
            case rel => exact ⟨j + 1, _, by go_num, by omega, HR7, HO6, HBN6⟩
            case measure => simp [intOf]; omega
          · obtain rfl : j = L.length := by omega
            have EAr := Lib.hid (ent_below EAn.out HBN.out); have EBr := Lib.hid (ent_below EBn.out HBN.out)
            have t0 := ent_cell EAr.out 0 _ rfl
            have u0 := ent_cell EBr.out 0 _ rfl
            have u1 := ent_cell EBr.out 1 _ rfl
            have u2 := ent_cell EBr.out 2 _ rfl
            have hnn : L.length ≤ 100000000000 := by omega
            have hsz : wn.heap.size ≤ wr.heap.size := HBN.out.size
            go_wp2_with (at_builtin; refine wpList_append_new eltPair wr rfl (.tmp 66) (.tmp 71) rfl wn.heap.size (.slice pa1 L.length ca1) L.length _ rfl HO.out #[.int .i64 n, .int .i64 ib, .string tb, .slice pb nb ob] 71 rfl rfl (by intro u hu; simp only [List.mem_cons, List.not_mem_nil, or_false] at hu; rcases hu with rfl | rfl | rfl | rfl <;> rfl) hnn hsz ?_)
            intro v6 w6 hown hch hloc
            obtain ⟨p6, c6, rfl⟩ := own_slice hown
            rw [show cellsOf vs ++ (#[.int .i64 (n : Int), .int .i64 ib, .string tb, .slice pb nb ob] : Array Value).toList = cellsOf (vs ++ [.agg #[.int .i64 (n : Int), .int .i64 ib, .string tb, .slice pb nb ob]]) from (cells_four vs _ _ _ _).symm] at hown
            have HW6 := Lib.hid hown; have HC6 := Lib.hid hch; have HL6 := Lib.hid hloc
            clear hown hch hloc hnn hsz t0 u0 u1 u2
            go_wp2_with fail
            go_ret2
            have hob : ∀ g, (Value.slice pa1 L.length ca1).ownBlock = some g → wn.heap.size ≤ g := fun g hg => (HO.out.lt g hg).1
            have hr := HR2.out
            subst hr
            have hb6 : Below wn.heap.size wn w6 := HBN.out.trans (HC6.out.below HBN.out.size fun k hk => hob k hk)
            refine ⟨_, rfl, HBs2.out.trans (hb6.mono HBs2.out.size), fun L' e => ?_⟩
            injection e with e
            subst e
            obtain ⟨f1, f2, f3⟩ := HR1.out
            rw [List.take_length] at f2
            have hs := HBN.out.size
            have hs6 := HC6.out.size
            refine rowH (base := wn.heap.size) HW6.out (by simp [Ux.bind]) ?_ (fun z hz => (List.mem_append.1 hz).elim (f3 z) (fun h => by rw [List.mem_singleton.1 h]; rfl)) (fun _ _ => rfl)
            refine Reps.snoc ?_ (f2.mono fun z y hzy => hzy.step hs6 hs (fun b _ h2 h3 => HC6.out.block b h2 h3) hob HL6.out)
            refine ⟨wn.heap.size, wn.heap.size, Nat.le_refl _, by omega, fun g hg => .inr ?_, fun u hu => ⟨_, _, _, _, _, rfl, HTH.out u fun b hb => (hu b (by omega)).trans (hb6.block b (by omega))⟩⟩
            rcases HL6.out with e | e
            · exact hob g (e ▸ hg)
            · have := e g hg; omega
     · have hsh := tyP_a.1 (show TyP wv (.agg #[.int .i64 ia, .string ta, .slice pa na oa]) (.a nm xs) by rw [← haa]; exact HAv.out.now)
       obtain ⟨kt, av, hkt, hva, hxa, _⟩ := hsh
       have hva2 : ia = kt ∧ ta = ⟨nm.toArray⟩ ∧ av = .slice pa na oa := by injection hva with hva; simp at hva; exact ⟨hva.1, hva.2.1, hva.2.2.symm⟩
       obtain ⟨rfl, hta2, rfl⟩ := hva2
       have HIA := Lib.hid hkt
       clear hva
       have d1 : decide (ia < 0) = true := by simp; exact hkt
       obtain ⟨n, hbb⟩ | ⟨nm', ys, hbb⟩ : (∃ n, bb = .v n) ∨ ∃ nm xs, bb = .a nm xs := by
        cases bb with
        | v n => exact .inl ⟨n, rfl⟩
        | a nm xs => exact .inr ⟨nm, xs, rfl⟩
       · obtain ⟨s9, q9, j9, c9, hvb⟩ := tyP_v.1 (show TyP wv (.agg #[.int .i64 ib, .string tb, .slice pb nb ob]) (.v n) by rw [← hbb]; exact HTv.out.now)
         have hib : ib = (n : Int) := by injection hvb with hvb; simp at hvb; exact hvb.1
         subst hib
         clear hvb hxa hta2
         have d2 : decide ((0 : Int) ≤ (n : Int)) = true := by simp
         have t0 := ent_cell EAv.out 0 _ rfl
         have t1 := ent_cell EAv.out 1 _ rfl
         have t2 := ent_cell EAv.out 2 _ rfl
         have u0 := ent_cell EBv.out 0 _ rfl
         have u1 := ent_cell EBv.out 1 _ rfl
         have u2 := ent_cell EBv.out 2 _ rfl
         have tf := ent_free EAv.out
         have uf := ent_free EBv.out
         have HR : Hid (r = Ux.headU L n aa) := Lib.hid (by rw [haa]; exact Ux.refU_swap HR0.out (HEA.out.symm.trans haa) (HEB.out.symm.trans hbb))
         go_upto_region 4 with fail
         clear tf uf t0 t1 t2 u0 u1 u2
         have HKs : Hid (∀ b, b ≠ w.heap.size → b ≠ w.heap.size + 1 → ((((((wv.setCell ⟨w.heap.size, 0, none⟩ (.int .i64 n)).setCell ⟨w.heap.size, 1, none⟩ (.string tb)).setCell ⟨w.heap.size, 2, none⟩ (.slice pb nb ob)).setCell ⟨w.heap.size + 1, 0, none⟩ (.int .i64 ia)).setCell ⟨w.heap.size + 1, 1, none⟩ (.string ta)).setCell ⟨w.heap.size + 1, 2, none⟩ (.slice pa na oa)).heap[b]? = wv.heap[b]?) := Lib.hid (fun b h1 h2 => (((((Below.heap_setCell _ ⟨w.heap.size + 1, 2, none⟩ _ b h2).trans (Below.heap_setCell _ ⟨w.heap.size + 1, 1, none⟩ _ b h2)).trans (Below.heap_setCell _ ⟨w.heap.size + 1, 0, none⟩ _ b h2)).trans (Below.heap_setCell _ ⟨w.heap.size, 2, none⟩ _ b h1)).trans (Below.heap_setCell _ ⟨w.heap.size, 1, none⟩ _ b h1)).trans (Below.heap_setCell _ ⟨w.heap.size, 0, none⟩ _ b h1))
         have HZs : Hid (((((((wv.setCell ⟨w.heap.size, 0, none⟩ (.int .i64 n)).setCell ⟨w.heap.size, 1, none⟩ (.string tb)).setCell ⟨w.heap.size, 2, none⟩ (.slice pb nb ob)).setCell ⟨w.heap.size + 1, 0, none⟩ (.int .i64 ia)).setCell ⟨w.heap.size + 1, 1, none⟩ (.string ta)).setCell ⟨w.heap.size + 1, 2, none⟩ (.slice pa na oa)).heap.size = wv.heap.size) := Lib.hid (by simp)
         have EAs := Lib.hid (ent_oth3 (ent_set3 EAv.out (.int .i64 n) (.string tb) (.slice pb nb ob)) (w.heap.size + 1) (by omega) (.int .i64 ia) (.string ta) (.slice pa na oa))
         have EBs := Lib.hid (ent_set3 (ent_oth3 EBv.out w.heap.size (by omega) (.int .i64 n) (.string tb) (.slice pb nb ob)) (.int .i64 ia) (.string ta) (.slice pa na oa))
         have HBs := Lib.hid (below_set3 (below_set3 HBv.out w.heap.size (Nat.le_refl _) (.int .i64 n) (.string tb) (.slice pb nb ob)) (w.heap.size + 1) (by omega) (.int .i64 ia) (.string ta) (.slice pa na oa))
         generalize ((((((wv.setCell ⟨w.heap.size, 0, none⟩ (.int .i64 n)).setCell ⟨w.heap.size, 1, none⟩ (.string tb)).setCell ⟨w.heap.size, 2, none⟩ (.slice pb nb ob)).setCell ⟨w.heap.size + 1, 0, none⟩ (.int .i64 ia)).setCell ⟨w.heap.size + 1, 1, none⟩ (.string ta)).setCell ⟨w.heap.size + 1, 2, none⟩ (.slice pa na oa)) = wS at HKs HZs EAs EBs HBs ⊢
         have HSs := Lib.hid (show w.heap.size + 2 ≤ wS.heap.size by rw [HZs.out]; exact HSv.out)
         have HTs := Lib.hid ((HAv.out.same (w' := wS) fun b hb => HKs.out b (by omega) (by omega)).wide (Nat.le_refl _) (Nat.le_refl _) (show _ ≤ wS.heap.size by rw [HZs.out]; exact Nat.le_refl _))
         clear HKs HZs EAv EBv HBv HSv HTv HAv d1
         have d1 : True := trivial
         have d3 : (ia == (n : Int)) = false := by have := HIA.out; simp; omega
         have t0 := ent_cell EAs.out 0 _ rfl
         have t1 := ent_cell EAs.out 1 _ rfl
         have t2 := ent_cell EAs.out 2 _ rfl
         have u0 := ent_cell EBs.out 0 _ rfl
         have u1 := ent_cell EBs.out 1 _ rfl
         have u2 := ent_cell EBs.out 2 _ rfl
         go_wp2_with fail
         refine (refHas_ty aa _ n wS HTs.out.now).mono ?_
         rintro e wn ⟨rfl, hbn⟩
         have HBs2 := Lib.hid (HBs.out.trans (hbn.mono HBs.out.size))
         have EAn := Lib.hid (ent_below EAs.out hbn); have EBn := Lib.hid (ent_below EBs.out hbn)
         have HTn := Lib.hid (HTs.out.same (w' := wn) fun b hb => hbn.block b (by have := HSs.out; omega))
         have HSn := Lib.hid (show w.heap.size + 2 ≤ wn.heap.size by have := HSs.out; have := hbn.size; omega)
         clear hbn HBs EAs EBs HTs HSs d1 d2 d3
         clear t0 t1 t2 u0 u1 u2
         by_cases hc : Ux.hasT aa n = true
         · rw [hc]
           go_wp2_with fail
           go_ret2
           have hr := HR.out
           rw [Ux.headU_none hc] at hr
           subst hr
           exact ⟨_, rfl, HBs2.out, fun L' e => by cases e⟩
         have hcf : Ux.hasT aa n = false := by simpa using hc
         rw [hcf]
         have HR2 := Lib.hid (HR.out.trans (Ux.headU_some hc))
         clear HR hc hcf
         have HTH := Lib.hid (tyP_hang HTn.out.now 0 0)
         have HO0 : Hid (wn.ownsRow wn.heap.size 71 4 (.slice none 0 0) 0 (cellsOf [])) := Lib.hid (own_none _ _ _ _ (Nat.le_refl _))
         go_wp2_with fail
         go_loopw [8, 9] (fun ov i wr => ∃ (j : Nat) (vs : List Value), i = .int .i64 j ∧ j ≤ L.length ∧ Hid (vs.length = j ∧ Reps (KeptH PairP wn.heap.size wn.heap.size wr ov.ownBlock) vs ((L.take j).map fun p => (p.1, Ux.put n aa p.2)) ∧ ∀ z ∈ vs, z.cells.size = 4) ∧ Hid (wr.ownsRow wn.heap.size 71 4 ov j (cellsOf vs)) ∧ Hid (Below wn.heap.size wn wr)) (fun _ i _ => L.length - (intOf i).toNat)
         case atStart => exact ⟨0, [], rfl, Nat.zero_le _, Lib.hid ⟨rfl, trivial, fun _ h => by cases h⟩, HO0, Lib.hid (Below.refl _ _)⟩
         case round =>
          clear HO0
          obtain ⟨j, vs, rfl, hj, HR1, HO, HBN⟩ := hrel
          obtain ⟨pa1, ca1, rfl⟩ := own_slice HO.out
          have hll := HLL.out
          by_cases hlt : j < L.length
          · obtain ⟨x, hx1⟩ : ∃ x, L[j]? = some x := ⟨_, List.getElem?_eq_getElem hlt⟩
            have HTK : Hid ((L.take (j + 1)).map (fun p => (p.1, Ux.put n aa p.2)) = (L.take j).map (fun p => (p.1, Ux.put n aa p.2)) ++ [(x.1, Ux.put n aa x.2)]) := Lib.hid (by rw [List.take_add_one, hx1]; simp)
            have HSX : Hid (x.2.sz ≤ 50000000000) := Lib.hid (by have := HEN.out x (List.mem_of_getElem? hx1); omega)
            have HBW := Lib.hid (HBs2.out.trans (HBN.out.mono HBs2.out.size))
            rcases pairs_below HL.out HBW.out with ⟨h0, _⟩ | ⟨g, of, c', hv, g1, g2, g3⟩
            · rw [h0] at hlt; simp at hlt
            injection hv with hq1 _ hq2
            subst hq1; subst hq2
            obtain ⟨z, ⟨e0, e1, zq, zn, zc, rfl, hty⟩, _, hcell⟩ := g3 j x hx1
            have HTY := Lib.hid (show Hang TyP wr.heap.size 0 0 wr.drew (.agg #[.int .i64 e0, .string e1, .slice zq zn zc]) x.2 from (tyP_hang hty 0 0).same fun b hb => rfl)
            have HTH := Lib.hid (HTH.out.same (w' := wr.drew) fun b hb => HBN.out.drew.block b (by omega))
            have hglt : g < wn.heap.size := by have h1 := World.block_lt_of_cell? w _ (pcell HL.out hx1); have h2 := HSn.out; dsimp only at h1; omega
            have HCL := Lib.hid (fun (w' : World) (h : Below wn.heap.size wr w') =>
             have up : ∀ j' z', (Value.agg #[.int .i64 x.1, .int .i64 e0, .string e1, .slice zq zn zc]).cells[j']? = some z' → w'.cell? ⟨g, of + j * 4 + j', none⟩ = some z' := fun j' z' hz' => (h.cell (p := ⟨g, of + j * 4 + j', none⟩) hglt).trans (hcell j' z' hz')
             (show w'.cell? ⟨g, of + j * 4, none⟩ = some (.int .i64 x.1) ∧ w'.cell? ⟨g, of + j * 4 + 1, none⟩ = some (.int .i64 e0) ∧ w'.cell? ⟨g, of + j * 4 + 2, none⟩ = some (.string e1) ∧ w'.cell? ⟨g, of + j * 4 + 3, none⟩ = some (.slice zq zn zc) from ⟨up 0 _ rfl, up 1 _ rfl, up 2 _ rfl, up 3 _ rfl⟩))
            have hk1 : (j : Int) < (L.length : Int) := by omega
            have hk2 : (L.length : Int) ≤ (cp : Int) := by omega
            have hk3 := g2
            have hk4 : (j : Int) ≤ 6 := by omega
            clear g1 g2 g3 hcell hx1 hty hglt
            go_upto_region 13 with fail
            refine wp_region_held_drew (S := fun (u : World) => Below wn.heap.size wr u) (by kernel_rfl) ((Below.refl _ _).drew) (fun hHeld => ?_)
            refine wpAnyH_take (i := 0) (v := .slice pa1 j ca1) rfl (by kernel_rfl) (by kernel_rfl) (by kernel_rfl) (fun _ _ _ h => h) (Or.inl ⟨by rfl, fun w' hSw => by go_simp⟩) hHeld ?_
            refine wpAnyH_take (i := 1) (v := .slice (some ⟨g, of, none⟩) L.length cp) rfl (by kernel_rfl) (by kernel_rfl) (by kernel_rfl) (fun _ _ _ h => h) (Or.inl ⟨by rfl, fun w' hSw => by go_simp⟩) hHeld ?_
            refine wpAnyH_take (i := 2) (v := .int .i64 j) rfl (by kernel_rfl) (by kernel_rfl) (by kernel_rfl) (fun _ _ _ h => h) (Or.inl ⟨by rfl, fun w' hSw => by go_simp⟩) hHeld ?_
            refine wpAnyH_take (i := 3) (v := .pointer (some ⟨g, of + j * 4, none⟩)) rfl (by kernel_rfl) (by kernel_rfl) (by kernel_rfl) (fun _ _ _ h => h) (Or.inl ⟨by rfl, fun w' hSw => by go_simp⟩) hHeld ?_
            refine wpAnyH_take (i := 4) (v := .pointer (some ⟨g, of + j * 4, none⟩)) rfl (by kernel_rfl) (by kernel_rfl) (by kernel_rfl) (fun _ _ _ h => h) (Or.inl ⟨by rfl, fun w' hSw => by go_simp⟩) hHeld ?_
            refine wpAnyH_take (i := 5) (v := .int .i64 x.1) rfl (by kernel_rfl) (by kernel_rfl) (by kernel_rfl) (fun _ _ _ h => h) (Or.inl ⟨by rfl, fun w' hSw => by obtain ⟨x0, x1, x2, x3⟩ := HCL.out w' hSw; go_simp⟩) hHeld ?_
            refine wpAnyH_take (i := 6) (v := .slice (some ⟨g, of, none⟩) L.length cp) rfl (by kernel_rfl) (by kernel_rfl) (by kernel_rfl) (fun _ _ _ h => h) (Or.inl ⟨by rfl, fun w' hSw => by go_simp⟩) hHeld ?_
            refine wpAnyH_take (i := 7) (v := .int .i64 j) rfl (by kernel_rfl) (by kernel_rfl) (by kernel_rfl) (fun _ _ _ h => h) (Or.inl ⟨by rfl, fun w' hSw => by go_simp⟩) hHeld ?_
            refine wpAnyH_take (i := 8) (v := .pointer (some ⟨g, of + j * 4, none⟩)) rfl (by kernel_rfl) (by kernel_rfl) (by kernel_rfl) (fun _ _ _ h => h) (Or.inl ⟨by rfl, fun w' hSw => by go_simp⟩) hHeld ?_
            refine wpAnyH_take (i := 9) (v := .pointer (some ⟨g, of + j * 4 + 1, none⟩)) rfl (by kernel_rfl) (by kernel_rfl) (by kernel_rfl) (fun _ _ _ h => h) (Or.inl ⟨by rfl, fun w' hSw => by go_simp⟩) hHeld ?_
            refine wpAnyH_take (i := 10) (v := .agg #[.int .i64 e0, .string e1, .slice zq zn zc]) rfl (by kernel_rfl) (by kernel_rfl) (by kernel_rfl) (fun _ _ _ h => h) (Or.inl ⟨by rfl, fun w' hSw => by obtain ⟨x0, x1, x2, x3⟩ := HCL.out w' hSw; go_simp⟩) hHeld ?_
            refine wpAnyH_take (i := 11) (v := .pointer (some ⟨w.heap.size, 0, none⟩)) rfl (by kernel_rfl) (by kernel_rfl) (by kernel_rfl) (fun _ _ _ h => h) (Or.inl ⟨by rfl, fun w' hSw => by go_simp⟩) hHeld ?_
            refine wpAnyH_take (i := 12) (v := .int .i64 n) rfl (by kernel_rfl) (by kernel_rfl) (by kernel_rfl) (fun _ _ _ h => h) (Or.inl ⟨by rfl, fun w' hSw => by have h0 := ent_cell (ent_below EAn.out (HBN.out.trans hSw)) 0 _ rfl; go_simp⟩) hHeld ?_
            refine wpAnyH_take (i := 13) (v := .agg #[.int .i64 ia, .string ta, .slice pa na oa]) rfl (by kernel_rfl) (by kernel_rfl) (by kernel_rfl) (fun _ _ _ h => h) (Or.inl ⟨by rfl, fun w' hSw => by have h0 := ent_cell (ent_below EBn.out (HBN.out.trans hSw)) 0 _ rfl; have h1 := ent_cell (ent_below EBn.out (HBN.out.trans hSw)) 1 _ rfl; have h2 := ent_cell (ent_below EBn.out (HBN.out.trans hSw)) 2 _ rfl; go_simp⟩) hHeld ?_
            try simp only [Act.put, List.getElem_toArray, List.getElem_cons_succ, List.getElem_cons_zero, List.setIfInBounds_toArray, List.set_cons_zero, List.set_cons_succ]
            refine wpAnyH_ready (rs := [14]) (by kernel_rfl) (by simp) ?_
            refine AllReadyH.cons rfl (fun K hK => ?_) AllReadyH.nil
            go_simp
            refine (put_any _ _ _ aa n wn.heap.size wr.drew HBN.out.size HTY.out.now HTH.out HSX.out).mono ?_
            rintro e w5 ⟨rr, rfl, hb5, hh5⟩
            replace hb5 := undrew hb5
            obtain ⟨b0, b1, rq, rn, rc, rfl⟩ := tyP_sh hh5.now
            have HB5 := Lib.hid hb5
            have HH5 : Hid (Hang TyP wn.heap.size wr.heap.size w5.heap.size w5 (.agg #[.int .i64 b0, .string b1, .slice rq rn rc]) (Ux.put n aa x.2)) := Lib.hid hh5
            have HO5 := Lib.hid (own_kept HO.out hb5)
            clear hb5 hh5
            refine hK.out _ _ (HB5.out.mono HBN.out.size) (fun hHeld => ?_)
            clear hK K
            refine wpAnyH_ready (rs := [15]) (by kernel_rfl) (by simp) ?_
            refine AllReadyH.cons rfl (fun K hK => ?_) AllReadyH.nil
            go_simp
            refine hK.out _ _ (HB5.out.mono HBN.out.size) (fun hHeld => ?_)
            clear hK K
            refine wpAnyH_ready (rs := [16]) (by kernel_rfl) (by simp) ?_
            refine AllReadyH.cons rfl (fun K hK => ?_) AllReadyH.nil
            go_simp
            refine hK.out _ _ ((HB5.out.mono HBN.out.size).alloc (Nat.le_trans HBN.out.size HB5.out.size) _) (fun hHeld => ?_)
            clear hK K
            refine wpAnyH_ready (rs := [17]) (by kernel_rfl) (by simp) ?_
            refine AllReadyH.cons rfl (fun K hK => ?_) AllReadyH.nil
            refine step_append_loc rfl (.tmp 48) (.tmp 64) 27 rfl wn.heap.size 71 i0 (.agg #[.int .i64 0, .int .i64 0, .string ⟨#[]⟩, .slice none 0 0]) 4 56 Tryd.underlying27 I0.out I00.out I01.out I02.out rfl (by decide) _ j _ rfl (HO5.out.alloc _) ⟨w5.heap.size, 0, none⟩ 1 1 [.int .i64 x.1, .int .i64 b0, .string b1, .slice rq rn rc] rfl (by decide) rfl ?c1 ?c2 ?c3 ?c4 ?c5 ?_
            case c1 => exact fun jj u h => four_cells w5 _ _ _ _ _ jj u h
            case c2 => intro u hu; simp only [List.mem_cons, List.not_mem_nil, or_false] at hu; rcases hu with rfl | rfl | rfl | rfl <;> rfl
            case c3 => unfold maxLen; have := HLL.out; omega
            case c4 => have := HLL.out; omega
            case c5 => have h1 := HBN.out.size; have h2 := HB5.out.size; simp; omega
            intro v6 w6 hown hgr hloc
            obtain ⟨p6, c6, rfl⟩ := own_slice hown
            have hob : ∀ kk, (Value.slice pa1 j ca1).ownBlock = some kk → wn.heap.size ≤ kk := fun kk hkk => (HO5.out.lt kk hkk).1
            have HS56 : Hid (w5.heap.size ≤ w6.heap.size) := Lib.hid (by have := hgr.size; simp at this; omega)
            have HK6 : Hid (∀ b, b < w5.heap.size → (Value.slice pa1 j ca1).ownBlock ≠ some b → w6.heap[b]? = w5.heap[b]?) := Lib.hid (fun b hb hne => (hgr.block b (by simp; omega) (fun e => hne e.symm)).trans (Below.heap_alloc w5 _ b hb))
            have HOB := Lib.hid hob
            have HLOC : Hid ((Value.slice p6 (j + 1) c6).ownBlock = (Value.slice pa1 j ca1).ownBlock ∨ ∀ g, (Value.slice p6 (j + 1) c6).ownBlock = some g → w5.heap.size ≤ g) := Lib.hid (hloc.imp id fun h g hg => by have := h g hg; simp at this; omega)
            have HS6 : Hid (Below wn.heap.size wr w6) := Lib.hid (((HB5.out.mono (B' := wn.heap.size) HBN.out.size).alloc (Nat.le_trans HBN.out.size HB5.out.size) _).grown hgr (by have h1 := HBN.out.size; have h2 := HB5.out.size; simp; omega) (fun kk hkk => hob kk hkk))
            rw [← cells_four] at hown
            have HO6 := Lib.hid hown
            clear hown hgr hloc hob
            refine hK.out _ _ HS6.out (fun hHeld => ?_)
            clear hK K
            refine wpAnyH_take (i := 18) (v := .slice p6 (j + 1) c6) rfl (by kernel_rfl) (by kernel_rfl) (by kernel_rfl) (fun _ _ _ h => h) (Or.inl ⟨by rfl, fun w' hSw => by go_simp⟩) hHeld ?_
            simp only [Act.put, List.getElem_toArray, List.getElem_cons_succ, List.getElem_cons_zero, List.setIfInBounds_toArray, List.set_cons_zero, List.set_cons_succ]
            refine wpAnyH_done (by kernel_rfl) ?_ _
            clear hHeld
            have HR7 : Hid ((vs ++ [Value.agg #[.int .i64 x.1, .int .i64 b0, .string b1, .slice rq rn rc]]).length = j + 1 ∧ Reps (KeptH PairP wn.heap.size wn.heap.size w6 (Value.slice p6 (j + 1) c6).ownBlock) (vs ++ [Value.agg #[.int .i64 x.1, .int .i64 b0, .string b1, .slice rq rn rc]]) ((L.take (j + 1)).map fun p => (p.1, Ux.put n aa p.2)) ∧ ∀ z ∈ vs ++ [Value.agg #[.int .i64 x.1, .int .i64 b0, .string b1, .slice rq rn rc]], z.cells.size = 4) := Lib.hid (by
             obtain ⟨f1, f2, f3⟩ := HR1.out
             refine ⟨by simp [f1], ?_, fun z hz => (List.mem_append.1 hz).elim (f3 z) (fun h => by rw [List.mem_singleton.1 h]; rfl)⟩
             rw [HTK.out]
             have hs := HBN.out.size
             have hs5 := HB5.out.size
             refine Reps.snoc ?_ (f2.mono fun z y hzy => ?_)
             · refine KeptH.step (ob := (Value.slice pa1 j ca1).ownBlock) ⟨wr.heap.size, w5.heap.size, hs, Nat.le_refl _, fun g hg => .inl (HO.out.lt g hg).2, fun u hu => ⟨_, _, _, _, _, rfl, HH5.out u hu⟩⟩ HS56.out (by omega) (fun b h1 h2 h3 => HK6.out b h2 h3) HOB.out HLOC.out
             · refine KeptH.step (ob := (Value.slice pa1 j ca1).ownBlock) (hzy.step hs5 (by omega) (fun b _ h2 _ => HB5.out.block b h2) HOB.out (.inl rfl)) HS56.out (by omega) (fun b h1 h2 h3 => HK6.out b h2 h3) HOB.out HLOC.out)
            have HBN6 := Lib.hid (HBN.out.trans HS6.out)
            clear HR1 HO HB5 HH5 HO5 HS56 HK6 HOB HLOC HS6 HBN HCL HTY HBW
            go_wp2_with fail
            go_roundw
            case rel => exact ⟨j + 1, _, by go_num, by omega, HR7, HO6, HBN6⟩
            case measure => simp [intOf]; omega
          · obtain rfl : j = L.length := by omega
            have EAr := Lib.hid (ent_below EAn.out HBN.out); have EBr := Lib.hid (ent_below EBn.out HBN.out)
            have t0 := ent_cell EAr.out 0 _ rfl
            have u0 := ent_cell EBr.out 0 _ rfl
            have u1 := ent_cell EBr.out 1 _ rfl
            have u2 := ent_cell EBr.out 2 _ rfl
            have hnn : L.length ≤ 100000000000 := by omega
            have hsz : wn.heap.size ≤ wr.heap.size := HBN.out.size
            go_wp2_with (at_builtin; refine wpList_append_new eltPair wr rfl (.tmp 66) (.tmp 71) rfl wn.heap.size (.slice pa1 L.length ca1) L.length _ rfl HO.out #[.int .i64 n, .int .i64 ia, .string ta, .slice pa na oa] 71 rfl rfl (by intro u hu; simp only [List.mem_cons, List.not_mem_nil, or_false] at hu; rcases hu with rfl | rfl | rfl | rfl <;> rfl) hnn hsz ?_)
            intro v6 w6 hown hch hloc
            obtain ⟨p6, c6, rfl⟩ := own_slice hown
            rw [show cellsOf vs ++ (#[.int .i64 (n : Int), .int .i64 ia, .string ta, .slice pa na oa] : Array Value).toList = cellsOf (vs ++ [.agg #[.int .i64 (n : Int), .int .i64 ia, .string ta, .slice pa na oa]]) from (cells_four vs _ _ _ _).symm] at hown
            have HW6 := Lib.hid hown; have HC6 := Lib.hid hch; have HL6 := Lib.hid hloc
            clear hown hch hloc hnn hsz t0 u0 u1 u2
            go_wp2_with fail
            go_ret2
            have hob : ∀ g, (Value.slice pa1 L.length ca1).ownBlock = some g → wn.heap.size ≤ g := fun g hg => (HO.out.lt g hg).1
            have hr := HR2.out
            subst hr
            have hb6 : Below wn.heap.size wn w6 := HBN.out.trans (HC6.out.below HBN.out.size fun k hk => hob k hk)
            refine ⟨_, rfl, HBs2.out.trans (hb6.mono HBs2.out.size), fun L' e => ?_⟩
            injection e with e
            subst e
            obtain ⟨f1, f2, f3⟩ := HR1.out
            rw [List.take_length] at f2
            have hs := HBN.out.size
            have hs6 := HC6.out.size
            refine rowH (base := wn.heap.size) HW6.out (by simp [Ux.bind]) ?_ (fun z hz => (List.mem_append.1 hz).elim (f3 z) (fun h => by rw [List.mem_singleton.1 h]; rfl)) (fun _ _ => rfl)
            refine Reps.snoc ?_ (f2.mono fun z y hzy => hzy.step hs6 hs (fun b _ h2 h3 => HC6.out.block b h2 h3) hob HL6.out)
            refine ⟨wn.heap.size, wn.heap.size, Nat.le_refl _, by omega, fun g hg => .inr ?_, fun u hu => ⟨_, _, _, _, _, rfl, HTH.out u fun b hb => (hu b (by omega)).trans (hb6.block b (by omega))⟩⟩
            rcases HL6.out with e | e
            · exact hob g (e ▸ hg)
            · have := e g hg; omega
       · obtain ⟨kt', av', hkt', hvb, hxb, _⟩ := tyP_a.1 (show TyP wv (.agg #[.int .i64 ib, .string tb, .slice pb nb ob]) (.a nm' ys) by rw [← hbb]; exact HTv.out.now)
         have hvb2 : ib = kt' ∧ tb = ⟨nm'.toArray⟩ ∧ av' = .slice pb nb ob := by injection hvb with hvb; simp at hvb; exact ⟨hvb.1, hvb.2.1, hvb.2.2.symm⟩
         obtain ⟨rfl, htb2, rfl⟩ := hvb2
         subst hta2
         subst htb2
         clear hvb
         have hla := hxa.lenIs
         have hlb := hxb.lenIs
         subst hla
         subst hlb
         have d2 : decide ((0 : Int) ≤ ib) = false := by simp; exact hkt'
         have d3 : decide ((0 : Int) ≤ ia) = false := by simp; exact hkt
         have t0 := ent_cell EAv.out 0 _ rfl
         have t1 := ent_cell EAv.out 1 _ rfl
         have t2 := ent_cell EAv.out 2 _ rfl
         have u0 := ent_cell EBv.out 0 _ rfl
         have u1 := ent_cell EBv.out 1 _ rfl
         have u2 := ent_cell EBv.out 2 _ rfl
         rcases Ux.refU_both HR0.out (HEA.out.symm.trans haa) (HEB.out.symm.trans hbb) with ⟨hne, hr⟩ | ⟨hnm, hle, hloop⟩
         · subst hr
           by_cases hnm : nm = nm'
           · subst hnm
             have hle : ¬ xs.length = ys.length := hne.resolve_left (fun h => h rfl)
             have d4 : ((xs.length : Int) == (ys.length : Int)) = false := by simp; omega
             clear hne
             go_wp2_with fail
             go_ret2
             exact ⟨_, rfl, HBv.out, fun L' e => by cases e⟩
           · have d4 : ((⟨nm.toArray⟩ : ByteArray) == ⟨nm'.toArray⟩) = false := names_differ hnm
             clear hne
             go_wp2_with fail
             go_ret2
             exact ⟨_, rfl, HBv.out, fun L' e => by cases e⟩
         · subst hnm
           rw [← hle] at EBv HTv ⊢
           clear u0 u1 u2
           have u0 := ent_cell EBv.out 0 _ rfl
           have u1 := ent_cell EBv.out 1 _ rfl
           have u2 := ent_cell EBv.out 2 _ rfl
           have HLOOP := Lib.hid hloop; have HLE := Lib.hid hle
           clear hloop hle hxa hxb hkt hkt'
           go_upto_region 17 with fail
           clear d1 d2 d3 t0 t1 t2 u0 u1 u2
           have HHA := Lib.hid (show ∀ u, Below wv.heap.size wv u → RowAt 3 (TyP u) u (.slice pa xs.length oa) xs from fun u hu => ty_row (nm := nm) (by rw [← haa]; exact tyP_below HAv.out.now hu))
           have HHB := Lib.hid (show ∀ u, Below wv.heap.size wv u → RowAt 3 (TyP u) u (.slice pb xs.length ob) ys from fun u hu => ty_row (nm := nm) (by rw [← hbb]; exact tyP_below HTv.out.now hu))
           have HPX := Lib.hid (show ∀ x ∈ xs, Ux.OfS S L x ∧ ∀ m ∈ x.vs, m ∈ V from fun x hx => ⟨HOA.out.parts hok.parts HI.out.solved HTR.out (HEA.out.symm.trans haa) x hx, fun m hm => Ux.sub_vs_in HI.out HAV.out m (by rw [← HEA.out, haa, Ux.vs_a]; exact List.mem_flatMap.2 ⟨x, hx, hm⟩)⟩)
           have HPY := Lib.hid (show ∀ y ∈ ys, Ux.OfS S L y ∧ ∀ m ∈ y.vs, m ∈ V from fun x hx => ⟨HOB'.out.parts hok.parts HI.out.solved HTR.out (HEB.out.symm.trans hbb) x hx, fun m hm => Ux.sub_vs_in HI.out HBV.out m (by rw [← HEB.out, hbb, Ux.vs_a]; exact List.mem_flatMap.2 ⟨x, hx, hm⟩)⟩)
           have HIN0 := Lib.hid (⟨HI.out, HTR.out, Ux.ExtL.refl HI.out.solved⟩ : Ux.Inv V L ∧ Ux.Tri S L ∧ Ux.ExtL L L)
           have HLV0 := Lib.hid (pairs_below HL.out HBv.out)
           go_wp2_with fail
           go_loopw [0, 6, 7, 10, 11, 12] (fun lvr _ _ i _ _ wr => ∃ (j : Nat) (M : Ux.Pairs), i = .int .i64 j ∧ j ≤ xs.length ∧ Hid (RowAt 4 (PairP wr) wr lvr M) ∧ Hid (Ux.Inv V M ∧ Ux.Tri S M ∧ Ux.ExtL L M) ∧ Hid (Ux.loopU (Ux.refU f) M (xs.drop j) (ys.drop j) = some r) ∧ Hid (Below wv.heap.size wv wr)) (fun _ _ _ i _ _ _ => xs.length - (intOf i).toNat)
           case atStart => exact ⟨0, L, rfl, Nat.zero_le _, HLV0, HIN0, HLOOP, Lib.hid (Below.refl _ _)⟩
           case round =>
            clear HLV0 HIN0 HLOOP
            obtain ⟨j, M, rfl, hj, HLV, HIN, HLOOP, HW⟩ := hrel
            obtain ⟨lq, lcc, rfl⟩ := HLV.out.len
            have EAr := Lib.hid (ent_below EAv.out HW.out); have EBr := Lib.hid (ent_below EBv.out HW.out)
            have t2 := ent_cell EAr.out 2 _ rfl
            by_cases hlt : j < xs.length
            · obtain ⟨x, hx⟩ : ∃ x, xs[j]? = some x := ⟨_, List.getElem?_eq_getElem hlt⟩
              obtain ⟨y, hy⟩ : ∃ y, ys[j]? = some y := ⟨_, List.getElem?_eq_getElem (by have := HLE.out; omega)⟩
              have hxd : xs.drop j = x :: xs.drop (j + 1) := by
               obtain ⟨h1, h2⟩ := List.getElem?_eq_some_iff.1 hx; rw [← h2]; exact List.drop_eq_getElem_cons h1
              have hyd : ys.drop j = y :: ys.drop (j + 1) := by
               obtain ⟨h1, h2⟩ := List.getElem?_eq_some_iff.1 hy; rw [← h2]; exact List.drop_eq_getElem_cons h1
              have hst : ∃ o, Ux.refU f M x y = some o ∧ (o = none → r = none) ∧ ∀ M', o = some M' → Ux.loopU (Ux.refU f) M' (xs.drop (j + 1)) (ys.drop (j + 1)) = some r := by
               have h := HLOOP.out
               rw [hxd, hyd] at h
               rcases Ux.loopU_step h with ⟨h1, h2⟩ | ⟨M', h1, h2⟩
               · exact ⟨none, h1, fun _ => h2, fun M' e => by cases e⟩
               · exact ⟨some M', h1, (fun e => by cases e), fun M2 e => by injection e with e; rw [← e]; exact h2⟩
              obtain ⟨o, ho, ho1, ho2⟩ := hst
              have hox := ((HPX.out x (List.mem_of_getElem? hx)).1).ext HIN.out.2.2
              have hoy := ((HPY.out y (List.mem_of_getElem? hy)).1).ext HIN.out.2.2
              obtain ⟨gx, ox, rfl, hc1, hc1', vx, sx, qx, nx, ccx, htx, hcx⟩ := ty_at (HHA.out wr HW.out) hx
              obtain ⟨gy, oy, rfl, hc2, hc2', vy, sy, qy, ny, ccy, hty, hcy⟩ := ty_at (HHB.out wr HW.out) hy
              have HCX := Lib.hid hcx; have HCY := Lib.hid hcy
              have HCALL := Lib.hid (HIH.out M x y o (.slice lq M.length lcc) _ _ wr.drew ho HIN.out.1 HIN.out.2.1 hox hoy (HPX.out x (List.mem_of_getElem? hx)).2 (HPY.out y (List.mem_of_getElem? hy)).2 (pairs_below HLV.out (Below.refl _ _).drew) (tyP_below htx (Below.refl _ _).drew) (tyP_below hty (Below.refl _ _).drew))
              have HO1 := Lib.hid ho1; have HO2 := Lib.hid ho2
              have HNXT := Lib.hid (show ∀ M', o = some M' → Ux.Inv V M' ∧ Ux.Tri S M' ∧ Ux.ExtL L M' from fun M' e => by
               subst e
               have h3 := Ux.refU_tri hok.parts f M x y HIN.out.1.solved HIN.out.2.1 hox hoy
               rw [ho] at h3
               exact ⟨Ux.refU_inv HIN.out.1 (HPX.out x (List.mem_of_getElem? hx)).2 (HPY.out y (List.mem_of_getElem? hy)).2 ho, h3.2.1, HIN.out.2.2.trans h3.2.2⟩)
              have EAd := Lib.hid (show wr.drew.heap[w.heap.size]? = some (.cells #[.int .i64 ia, .string ⟨nm.toArray⟩, .slice (some ⟨gx, ox, none⟩) xs.length oa] 30 (0, 0)) from EAr.out)
              have EBd := Lib.hid (show wr.drew.heap[w.heap.size + 1]? = some (.cells #[.int .i64 ib, .string ⟨nm.toArray⟩, .slice (some ⟨gy, oy, none⟩) xs.length ob] 30 (0, 0)) from EBr.out)
              have hk1 : (j : Int) < (xs.length : Int) := by omega
              have hk2 : (xs.length : Int) ≤ (oa : Int) := by omega
              have hk4 : (xs.length : Int) ≤ (ob : Int) := by have := HLE.out; omega
              clear ho ho1 ho2 hox hoy htx hty hcx hcy hxd hyd hx hy HLV HIN HLOOP
              go_upto_region 20 with fail
              refine wp_region_held_drew (S := fun (u : World) => u.heap[w.heap.size]? = some (.cells #[.int .i64 ia, .string ⟨nm.toArray⟩, .slice (some ⟨gx, ox, none⟩) xs.length oa] 30 (0, 0)) ∧ u.heap[w.heap.size + 1]? = some (.cells #[.int .i64 ib, .string ⟨nm.toArray⟩, .slice (some ⟨gy, oy, none⟩) xs.length ob] 30 (0, 0)) ∧ Below wr.heap.size wr u) (by kernel_rfl) (⟨EAd.out, EBd.out, (Below.refl _ _).drew⟩) (fun hHeld => ?_)
              refine wpAnyH_take (i := 0) (v := .slice lq M.length lcc) rfl (by kernel_rfl) (by kernel_rfl) (by kernel_rfl) (fun _ _ _ h => h) (Or.inl ⟨by rfl, fun w' hSw => by go_simp⟩) hHeld ?_
              refine wpAnyH_take (i := 1) (v := .pointer (some ⟨w.heap.size, 2, none⟩)) rfl (by kernel_rfl) (by kernel_rfl) (by kernel_rfl) (fun _ _ _ h => h) (Or.inl ⟨by rfl, fun w' hSw => by go_simp⟩) hHeld ?_
              refine wpAnyH_take (i := 2) (v := .slice (some ⟨gx, ox, none⟩) xs.length oa) rfl (by kernel_rfl) (by kernel_rfl) (by kernel_rfl) (fun _ _ _ h => h) (Or.inl ⟨by rfl, fun w' hSw => by have h2 := ent_cell hSw.1 2 _ rfl; go_simp⟩) hHeld ?_
              refine wpAnyH_take (i := 3) (v := .int .i64 j) rfl (by kernel_rfl) (by kernel_rfl) (by kernel_rfl) (fun _ _ _ h => h) (Or.inl ⟨by rfl, fun w' hSw => by go_simp⟩) hHeld ?_
              refine wpAnyH_take (i := 4) (v := .pointer (some ⟨gx, ox + j * 3, none⟩)) rfl (by kernel_rfl) (by kernel_rfl) (by kernel_rfl) (fun _ _ _ h => h) (Or.inl ⟨by rfl, fun w' hSw => by go_simp⟩) hHeld ?_
              refine wpAnyH_take (i := 5) (v := .agg #[.int .i64 vx, .string sx, .slice qx nx ccx]) rfl (by kernel_rfl) (by kernel_rfl) (by kernel_rfl) (fun _ _ _ h => h) (Or.inl ⟨by rfl, fun w' hSw => by obtain ⟨x0, x1, x2⟩ := HCX.out w' hSw.2.2; go_simp⟩) hHeld ?_
              refine wpAnyH_take (i := 6) (v := .pointer (some ⟨w.heap.size + 1, 2, none⟩)) rfl (by kernel_rfl) (by kernel_rfl) (by kernel_rfl) (fun _ _ _ h => h) (Or.inl ⟨by rfl, fun w' hSw => by go_simp⟩) hHeld ?_
              refine wpAnyH_take (i := 7) (v := .slice (some ⟨gy, oy, none⟩) xs.length ob) rfl (by kernel_rfl) (by kernel_rfl) (by kernel_rfl) (fun _ _ _ h => h) (Or.inl ⟨by rfl, fun w' hSw => by have h2 := ent_cell hSw.2.1 2 _ rfl; go_simp⟩) hHeld ?_
              refine wpAnyH_take (i := 8) (v := .int .i64 j) rfl (by kernel_rfl) (by kernel_rfl) (by kernel_rfl) (fun _ _ _ h => h) (Or.inl ⟨by rfl, fun w' hSw => by go_simp⟩) hHeld ?_
              refine wpAnyH_take (i := 9) (v := .pointer (some ⟨gy, oy + j * 3, none⟩)) rfl (by kernel_rfl) (by kernel_rfl) (by kernel_rfl) (fun _ _ _ h => h) (Or.inl ⟨by rfl, fun w' hSw => by go_simp⟩) hHeld ?_
              refine wpAnyH_take (i := 10) (v := .agg #[.int .i64 vy, .string sy, .slice qy ny ccy]) rfl (by kernel_rfl) (by kernel_rfl) (by kernel_rfl) (fun _ _ _ h => h) (Or.inl ⟨by rfl, fun w' hSw => by obtain ⟨x0, x1, x2⟩ := HCY.out w' hSw.2.2; go_simp⟩) hHeld ?_
              try simp only [Act.put, List.getElem_toArray, List.getElem_cons_succ, List.getElem_cons_zero, List.setIfInBounds_toArray, List.set_cons_zero, List.set_cons_succ]
              refine wpAnyH_ready (rs := [11]) (by kernel_rfl) (by simp) ?_
              refine AllReadyH.cons rfl (fun K hK => ?_) AllReadyH.nil
              go_simp
              refine HCALL.out.mono ?_
              rintro e w8 ⟨lv2, rfl, hb, hrow⟩
              replace hb := undrew hb
              have HROW := Lib.hid hrow
              have HW8 := Lib.hid (HW.out.trans (hb.mono HW.out.size))
              refine hK.out _ _ ⟨ent_below EAr.out hb, ent_below EBr.out hb, hb⟩ (fun hHeld => ?_)
              clear hb hrow
              clear hK K
              refine wpAnyH_take (i := 12) (v := .tuple #[lv2, .bool o.isSome]) rfl (by kernel_rfl) (by kernel_rfl) (by kernel_rfl) (fun _ _ _ h => h) (Or.inl ⟨by rfl, fun w' hSw => by go_simp⟩) hHeld ?_
              simp only [Act.put, List.getElem_toArray, List.getElem_cons_succ, List.getElem_cons_zero, List.setIfInBounds_toArray, List.set_cons_zero, List.set_cons_succ]
              refine wpAnyH_take (i := 13) (v := lv2) rfl (by kernel_rfl) (by kernel_rfl) (by kernel_rfl) (fun _ _ _ h => h) (Or.inl ⟨by rfl, fun w' hSw => by go_simp⟩) hHeld ?_
              simp only [Act.put, List.getElem_toArray, List.getElem_cons_succ, List.getElem_cons_zero, List.setIfInBounds_toArray, List.set_cons_zero, List.set_cons_succ]
              refine wpAnyH_take (i := 14) (v := .bool o.isSome) rfl (by kernel_rfl) (by kernel_rfl) (by kernel_rfl) (fun _ _ _ h => h) (Or.inl ⟨by rfl, fun w' hSw => by go_simp⟩) hHeld ?_
              simp only [Act.put, List.getElem_toArray, List.getElem_cons_succ, List.getElem_cons_zero, List.setIfInBounds_toArray, List.set_cons_zero, List.set_cons_succ]
              refine wpAnyH_take (i := 15) (v := lv2) rfl (by kernel_rfl) (by kernel_rfl) (by kernel_rfl) (fun _ _ _ h => h) (Or.inl ⟨by rfl, fun w' hSw => by go_simp⟩) hHeld ?_
              simp only [Act.put, List.getElem_toArray, List.getElem_cons_succ, List.getElem_cons_zero, List.setIfInBounds_toArray, List.set_cons_zero, List.set_cons_succ]
              refine wpAnyH_take (i := 16) (v := .bool o.isSome) rfl (by kernel_rfl) (by kernel_rfl) (by kernel_rfl) (fun _ _ _ h => h) (Or.inl ⟨by rfl, fun w' hSw => by go_simp⟩) hHeld ?_
              simp only [Act.put, List.getElem_toArray, List.getElem_cons_succ, List.getElem_cons_zero, List.setIfInBounds_toArray, List.set_cons_zero, List.set_cons_succ]
              refine wpAnyH_done (by kernel_rfl) ?_ _
              clear hHeld
              cases o with
              | none =>
                have hr := HO1.out rfl
                subst hr
                go_wp2_with fail
                go_ret2
                exact ⟨_, rfl, HBv.out.trans (HW8.out.mono HBv.out.size), fun L' e => by cases e⟩
              | some M' =>
                go_wp2_with fail
                go_roundw
                case rel => exact ⟨j + 1, M', by go_num, by omega, Lib.hid (HROW.out M' rfl), Lib.hid (HNXT.out M' rfl), Lib.hid (HO2.out M' rfl), HW8⟩
                case measure => simp [intOf]; omega
            · obtain rfl : j = xs.length := by omega
              have hr : r = some M := by
               have h := HLOOP.out
               rw [List.drop_length, HLE.out, List.drop_length] at h
               unfold Ux.loopU at h
               injection h with h; exact h.symm
              go_wp2_with fail
              go_ret2
              subst hr
              exact ⟨_, rfl, HBv.out.trans (HW.out.mono HBv.out.size), fun L' e => by injection e with e; rw [← e]; exact HLV.out⟩
   · have t0 := ent_cell EB.out 0 _ rfl
     have t1 := ent_cell EB.out 1 _ rfl
     have t2 := ent_cell EB.out 2 _ rfl
     go_simp
     refine hK.out _ _ ⟨HB.out, HS.out⟩ (fun hHeld => ?_)
     clear hK K t0 t1 t2
     refine wpAnyH_ready (rs := [2]) (by kernel_rfl) (by simp) ?_
     refine AllReadyH.cons rfl (fun K hK => ?_) AllReadyH.nil
     go_simp
     refine (applyB_any _ _ L a w.heap.size wc (by have := HS.out; omega) (pairs_up HL.out HB.out) ((tyP_hang HTA.out 0 0).same fun b hb => HB.out.block b (by omega)) (fun k => Nat.le_trans (Ux.app_take L a k) (by rw [← HEA.out]; have := HSA.out; omega))).mono ?_
     rintro e wy ⟨ra, rfl, hb, hh⟩
     rw [← HEA.out] at hh
     obtain ⟨ia, ta, pa, na, oa, rfl⟩ := tyP_sh hh.now
     have EAy := Lib.hid (ent_below EA.out hb); have EBy := Lib.hid (ent_below EB.out hb)
     have HBy := Lib.hid (HB.out.trans (hb.mono (by have := HS.out; omega)))
     have HSy := Lib.hid (show w.heap.size + 2 ≤ wy.heap.size by have := HS.out; have := hb.size; omega)
     have HHA := Lib.hid (hh.wide (Nat.le_refl _) (show w.heap.size + 2 ≤ wc.heap.size from HS.out) (Nat.le_refl _))
     clear hb hh EA EB HB HS
     have EA := EAy; have EB := EBy; have HB := HBy; have HS := HSy
     clear EAy EBy HBy HSy
     refine hK.out _ _ ⟨HB.out, HS.out⟩ (fun hHeld => ?_)
     clear hK K
     refine wpAnyH_ready (rs := [5]) (by kernel_rfl) (by simp) ?_
     refine AllReadyH.cons rfl (fun K hK => ?_) AllReadyH.nil
     go_simp
     refine (applyB_any _ _ L b w.heap.size wy (by have := HS.out; omega) (pairs_up HL.out HB.out) ((tyP_hang HTB.out 0 0).same fun b hb => HB.out.block b (by omega)) (fun k => Nat.le_trans (Ux.app_take L b k) (by rw [← HEB.out]; have := HSB.out; omega))).mono ?_
     rintro e wz ⟨rb, rfl, hb, hh⟩
     rw [← HEB.out] at hh
     obtain ⟨ib, tb, pb, nb, ob, rfl⟩ := tyP_sh hh.now
     have EAy := Lib.hid (ent_below EA.out hb); have EBy := Lib.hid (ent_below EB.out hb)
     have HBy := Lib.hid (HB.out.trans (hb.mono (by have := HS.out; omega)))
     have HSy := Lib.hid (show w.heap.size + 2 ≤ wz.heap.size by have := HS.out; have := hb.size; omega)
     have HHB := Lib.hid (hh.wide (Nat.le_refl _) (show w.heap.size + 2 ≤ wy.heap.size from HS.out) (Nat.le_refl _))
     have HHAy := Lib.hid (HHA.out.same (w' := wz) fun b hb' => hb.block b (by have := HS.out; omega))
     have HZY := Lib.hid hb.size
     clear hb hh EA EB HB HS HHA
     have EA := EAy; have EB := EBy; have HB := HBy; have HS := HSy; have HHA := HHAy
     clear EAy EBy HBy HSy HHAy
     refine hK.out _ _ ⟨HB.out, HS.out⟩ (fun hHeld => ?_)
     clear hK K
     refine wpAnyH_ready (rs := [6]) (by kernel_rfl) (by simp) ?_
     refine AllReadyH.cons rfl (fun K hK => ?_) AllReadyH.nil
     have t0 := ent_cell EA.out 0 _ rfl
     have t1 := ent_cell EA.out 1 _ rfl
     have t2 := ent_cell EA.out 2 _ rfl
     have tf := ent_free EA.out
     go_simp
     clear t0 t1 t2 tf
     have HKu : Hid (∀ b, b ≠ w.heap.size → (((wz.setCell ⟨w.heap.size, 0, none⟩ (.int .i64 ia)).setCell ⟨w.heap.size, 1, none⟩ (.string ta)).setCell ⟨w.heap.size, 2, none⟩ (.slice pa na oa)).heap[b]? = wz.heap[b]?) := Lib.hid (fun b hb => ((Below.heap_setCell _ ⟨w.heap.size, 2, none⟩ _ b hb).trans (Below.heap_setCell _ ⟨w.heap.size, 1, none⟩ _ b hb)).trans (Below.heap_setCell _ ⟨w.heap.size, 0, none⟩ _ b hb))
     have HZu : Hid ((((wz.setCell ⟨w.heap.size, 0, none⟩ (.int .i64 ia)).setCell ⟨w.heap.size, 1, none⟩ (.string ta)).setCell ⟨w.heap.size, 2, none⟩ (.slice pa na oa)).heap.size = wz.heap.size) := Lib.hid (by simp)
     have EAu := Lib.hid (ent_set3 EA.out (.int .i64 ia) (.string ta) (.slice pa na oa))
     have HBu := Lib.hid (below_set3 HB.out w.heap.size (Nat.le_refl _) (.int .i64 ia) (.string ta) (.slice pa na oa))
     refine hK.out _ _ ⟨HBu.out, by rw [HZu.out]; exact HS.out⟩ (fun hHeld => ?_)
     clear hK K
     generalize (((wz.setCell ⟨w.heap.size, 0, none⟩ (.int .i64 ia)).setCell ⟨w.heap.size, 1, none⟩ (.string ta)).setCell ⟨w.heap.size, 2, none⟩ (.slice pa na oa)) = wu at HKu HZu EAu HBu hHeld ⊢
     have EBu := Lib.hid ((HKu.out (w.heap.size + 1) (by omega)).trans EB.out)
     refine wpAnyH_ready (rs := [7]) (by kernel_rfl) (by simp) ?_
     refine AllReadyH.cons rfl (fun K hK => ?_) AllReadyH.nil
     have t0 := ent_cell EBu.out 0 _ rfl
     have t1 := ent_cell EBu.out 1 _ rfl
     have t2 := ent_cell EBu.out 2 _ rfl
     have tf := ent_free EBu.out
     go_simp
     clear t0 t1 t2 tf
     have HKv : Hid (∀ b, b ≠ w.heap.size + 1 → (((wu.setCell ⟨w.heap.size + 1, 0, none⟩ (.int .i64 ib)).setCell ⟨w.heap.size + 1, 1, none⟩ (.string tb)).setCell ⟨w.heap.size + 1, 2, none⟩ (.slice pb nb ob)).heap[b]? = wu.heap[b]?) := Lib.hid (fun b hb => ((Below.heap_setCell _ ⟨w.heap.size + 1, 2, none⟩ _ b hb).trans (Below.heap_setCell _ ⟨w.heap.size + 1, 1, none⟩ _ b hb)).trans (Below.heap_setCell _ ⟨w.heap.size + 1, 0, none⟩ _ b hb))
     have HZv : Hid ((((wu.setCell ⟨w.heap.size + 1, 0, none⟩ (.int .i64 ib)).setCell ⟨w.heap.size + 1, 1, none⟩ (.string tb)).setCell ⟨w.heap.size + 1, 2, none⟩ (.slice pb nb ob)).heap.size = wu.heap.size) := Lib.hid (by simp)
     have EBv := Lib.hid (ent_set3 EBu.out (.int .i64 ib) (.string tb) (.slice pb nb ob))
     have HBv := Lib.hid (below_set3 HBu.out (w.heap.size + 1) (by omega) (.int .i64 ib) (.string tb) (.slice pb nb ob))
     refine hK.out _ _ ⟨HBv.out, by rw [HZv.out, HZu.out]; exact HS.out⟩ (fun hHeld => ?_)
     clear hK K
     refine wpAnyH_done (by kernel_rfl) ?_ _
     generalize (((wu.setCell ⟨w.heap.size + 1, 0, none⟩ (.int .i64 ib)).setCell ⟨w.heap.size + 1, 1, none⟩ (.string tb)).setCell ⟨w.heap.size + 1, 2, none⟩ (.slice pb nb ob)) = wv at HKv HZv EBv HBv ⊢
     have EAv := Lib.hid ((HKv.out w.heap.size (by omega)).trans EAu.out)
     have HSv := Lib.hid (show w.heap.size + 2 ≤ wv.heap.size by rw [HZv.out, HZu.out]; exact HS.out)
     have HAv := Lib.hid ((HHA.out.same (w' := wv) fun b hb => (HKv.out b (by omega)).trans (HKu.out b (by omega))).wide (Nat.le_refl _) (Nat.le_refl _) (show _ ≤ wv.heap.size by rw [HZv.out, HZu.out]; exact HZY.out))
     have HTv := Lib.hid ((HHB.out.same (w' := wv) fun b hb => (HKv.out b (by omega)).trans (HKu.out b (by omega))).wide (Nat.le_refl _) (Nat.le_refl _) (show _ ≤ wv.heap.size by rw [HZv.out, HZu.out]; exact Nat.le_refl _))
     clear HKu HZu EAu HBu EBu HKv HZv EA EB HB HS HHA HHB HZY hHeld
     obtain ⟨n, haa⟩ | ⟨nm, xs, haa⟩ : (∃ n, aa = .v n) ∨ ∃ nm xs, aa = .a nm xs := by
      cases aa with
      | v n => exact .inl ⟨n, rfl⟩
      | a nm xs => exact .inr ⟨nm, xs, rfl⟩
     · subst haa
       obtain ⟨s9, q9, j9, c9, hva⟩ := tyP_v.1 HAv.out.now
       have hia : ia = (n : Int) := by injection hva with hva; simp at hva; exact hva.1
       subst hia
       clear hva
       have d1 : decide ((n : Int) < 0) = false := by simp
       have d2 : decide ((0 : Int) ≤ (n : Int)) = true := by simp
       have t0 := ent_cell EAv.out 0 _ rfl
       have t1 := ent_cell EAv.out 1 _ rfl
       have t2 := ent_cell EAv.out 2 _ rfl
       have u0 := ent_cell EBv.out 0 _ rfl
       have u1 := ent_cell EBv.out 1 _ rfl
       have u2 := ent_cell EBv.out 2 _ rfl
       by_cases hib : ib = (n : Int)
       · have hbb : bb = .v n := by
          rcases bb with m | ⟨nm, ys⟩
          · obtain ⟨s8, q8, j8, c8, hvb⟩ := tyP_v.1 HTv.out.now
            have : ib = (m : Int) := by injection hvb with hvb; simp at hvb; exact hvb.1
            have : m = n := by omega
            rw [this]
          · obtain ⟨kt, av, hkt, hvb, _⟩ := tyP_a.1 HTv.out.now
            have : ib = kt := by injection hvb with hvb; simp at hvb; exact hvb.1
            omega
         subst hib
         go_wp2_with fail
         go_ret2
         have hr : r = some L := by
          rcases Ux.refU_var HR0.out HEA.out.symm with ⟨_, h⟩ | ⟨h, _⟩
          · exact h
          · exact absurd (HEB.out.symm.trans hbb) h
         subst hr
         exact ⟨_, rfl, HBv.out, fun L' e => by injection e with e; rw [← e]; exact pairs_below HL.out HBv.out⟩
       · have d3 : (ib == (n : Int)) = false := by simp [hib]
         have HR : Hid (r = Ux.headU L n bb) := Lib.hid (by
          rcases Ux.refU_var HR0.out HEA.out.symm with ⟨h, _⟩ | ⟨_, h⟩
          · exfalso
            have hbb : bb = .v n := HEB.out.trans h
            rw [hbb] at HTv
            obtain ⟨s8, q8, j8, c8, hvb⟩ := tyP_v.1 HTv.out.now
            exact hib (by injection hvb with hvb; simp at hvb; exact hvb.1)
          · rw [HEB.out]; exact h)
         have EAs := EAv; have EBs := EBv; have HBs := HBv; have HSs := HSv; have HTs := HTv
         clear EAv EBv HBv HSv HTv HAv
         obtain ⟨wS, hwS⟩ : ∃ wS, wS = wv := ⟨_, rfl⟩
         subst hwS
         go_wp2_with fail
         refine (refHas_ty bb _ n wS HTs.out.now).mono ?_
         rintro e wn ⟨rfl, hbn⟩
         have HBs2 := Lib.hid (HBs.out.trans (hbn.mono HBs.out.size))
         have EAn := Lib.hid (ent_below EAs.out hbn); have EBn := Lib.hid (ent_below EBs.out hbn)
         have HTn := Lib.hid (HTs.out.same (w' := wn) fun b hb => hbn.block b (by have := HSs.out; omega))
         have HSn := Lib.hid (show w.heap.size + 2 ≤ wn.heap.size by have := HSs.out; have := hbn.size; omega)
         clear hbn HBs EAs EBs HTs HSs d1 d2 d3
         clear t0 t1 t2 u0 u1 u2
         by_cases hc : Ux.hasT bb n = true
         · rw [hc]
           go_wp2_with fail
           go_ret2
           have hr := HR.out
           rw [Ux.headU_none hc] at hr
           subst hr
           exact ⟨_, rfl, HBs2.out, fun L' e => by cases e⟩
         have hcf : Ux.hasT bb n = false := by simpa using hc
         rw [hcf]
         have HR2 := Lib.hid (HR.out.trans (Ux.headU_some hc))
         clear HR hc hcf
         have HTH := Lib.hid (tyP_hang HTn.out.now 0 0)
         have HO0 : Hid (wn.ownsRow wn.heap.size 71 4 (.slice none 0 0) 0 (cellsOf [])) := Lib.hid (own_none _ _ _ _ (Nat.le_refl _))
         go_wp2_with fail
         go_loopw [8, 9] (fun ov i wr => ∃ (j : Nat) (vs : List Value), i = .int .i64 j ∧ j ≤ L.length ∧ Hid (vs.length = j ∧ Reps (KeptH PairP wn.heap.size wn.heap.size wr ov.ownBlock) vs ((L.take j).map fun p => (p.1, Ux.put n bb p.2)) ∧ ∀ z ∈ vs, z.cells.size = 4) ∧ Hid (wr.ownsRow wn.heap.size 71 4 ov j (cellsOf vs)) ∧ Hid (Below wn.heap.size wn wr)) (fun _ i _ => L.length - (intOf i).toNat)
         case atStart => exact ⟨0, [], rfl, Nat.zero_le _, Lib.hid ⟨rfl, trivial, fun _ h => by cases h⟩, HO0, Lib.hid (Below.refl _ _)⟩
         case round =>
          clear HO0
          obtain ⟨j, vs, rfl, hj, HR1, HO, HBN⟩ := hrel
          obtain ⟨pa1, ca1, rfl⟩ := own_slice HO.out
          have hll := HLL.out
          by_cases hlt : j < L.length
          · obtain ⟨x, hx1⟩ : ∃ x, L[j]? = some x := ⟨_, List.getElem?_eq_getElem hlt⟩
            have HTK : Hid ((L.take (j + 1)).map (fun p => (p.1, Ux.put n bb p.2)) = (L.take j).map (fun p => (p.1, Ux.put n bb p.2)) ++ [(x.1, Ux.put n bb x.2)]) := Lib.hid (by rw [List.take_add_one, hx1]; simp)
            have HSX : Hid (x.2.sz ≤ 50000000000) := Lib.hid (by have := HEN.out x (List.mem_of_getElem? hx1); omega)
            have HBW := Lib.hid (HBs2.out.trans (HBN.out.mono HBs2.out.size))
            rcases pairs_below HL.out HBW.out with ⟨h0, _⟩ | ⟨g, of, c', hv, g1, g2, g3⟩
            · rw [h0] at hlt; simp at hlt
            injection hv with hq1 _ hq2
            subst hq1; subst hq2
            obtain ⟨z, ⟨e0, e1, zq, zn, zc, rfl, hty⟩, _, hcell⟩ := g3 j x hx1
            have HTY := Lib.hid (show Hang TyP wr.heap.size 0 0 wr.drew (.agg #[.int .i64 e0, .string e1, .slice zq zn zc]) x.2 from (tyP_hang hty 0 0).same fun b hb => rfl)
            have HTH := Lib.hid (HTH.out.same (w' := wr.drew) fun b hb => HBN.out.drew.block b (by omega))
            have hglt : g < wn.heap.size := by have h1 := World.block_lt_of_cell? w _ (pcell HL.out hx1); have h2 := HSn.out; dsimp only at h1; omega
            have HCL := Lib.hid (fun (w' : World) (h : Below wn.heap.size wr w') =>
             have up : ∀ j' z', (Value.agg #[.int .i64 x.1, .int .i64 e0, .string e1, .slice zq zn zc]).cells[j']? = some z' → w'.cell? ⟨g, of + j * 4 + j', none⟩ = some z' := fun j' z' hz' => (h.cell (p := ⟨g, of + j * 4 + j', none⟩) hglt).trans (hcell j' z' hz')
             (show w'.cell? ⟨g, of + j * 4, none⟩ = some (.int .i64 x.1) ∧ w'.cell? ⟨g, of + j * 4 + 1, none⟩ = some (.int .i64 e0) ∧ w'.cell? ⟨g, of + j * 4 + 2, none⟩ = some (.string e1) ∧ w'.cell? ⟨g, of + j * 4 + 3, none⟩ = some (.slice zq zn zc) from ⟨up 0 _ rfl, up 1 _ rfl, up 2 _ rfl, up 3 _ rfl⟩))
            have hk1 : (j : Int) < (L.length : Int) := by omega
            have hk2 : (L.length : Int) ≤ (cp : Int) := by omega
            have hk3 := g2
            have hk4 : (j : Int) ≤ 6 := by omega
            clear g1 g2 g3 hcell hx1 hty hglt
            go_upto_region 13 with fail
            refine wp_region_held_drew (S := fun (u : World) => Below wn.heap.size wr u) (by kernel_rfl) ((Below.refl _ _).drew) (fun hHeld => ?_)
            refine wpAnyH_take (i := 0) (v := .slice pa1 j ca1) rfl (by kernel_rfl) (by kernel_rfl) (by kernel_rfl) (fun _ _ _ h => h) (Or.inl ⟨by rfl, fun w' hSw => by go_simp⟩) hHeld ?_
            refine wpAnyH_take (i := 1) (v := .slice (some ⟨g, of, none⟩) L.length cp) rfl (by kernel_rfl) (by kernel_rfl) (by kernel_rfl) (fun _ _ _ h => h) (Or.inl ⟨by rfl, fun w' hSw => by go_simp⟩) hHeld ?_
            refine wpAnyH_take (i := 2) (v := .int .i64 j) rfl (by kernel_rfl) (by kernel_rfl) (by kernel_rfl) (fun _ _ _ h => h) (Or.inl ⟨by rfl, fun w' hSw => by go_simp⟩) hHeld ?_
            refine wpAnyH_take (i := 3) (v := .pointer (some ⟨g, of + j * 4, none⟩)) rfl (by kernel_rfl) (by kernel_rfl) (by kernel_rfl) (fun _ _ _ h => h) (Or.inl ⟨by rfl, fun w' hSw => by go_simp⟩) hHeld ?_
            refine wpAnyH_take (i := 4) (v := .pointer (some ⟨g, of + j * 4, none⟩)) rfl (by kernel_rfl) (by kernel_rfl) (by kernel_rfl) (fun _ _ _ h => h) (Or.inl ⟨by rfl, fun w' hSw => by go_simp⟩) hHeld ?_
            refine wpAnyH_take (i := 5) (v := .int .i64 x.1) rfl (by kernel_rfl) (by kernel_rfl) (by kernel_rfl) (fun _ _ _ h => h) (Or.inl ⟨by rfl, fun w' hSw => by obtain ⟨x0, x1, x2, x3⟩ := HCL.out w' hSw; go_simp⟩) hHeld ?_
            refine wpAnyH_take (i := 6) (v := .slice (some ⟨g, of, none⟩) L.length cp) rfl (by kernel_rfl) (by kernel_rfl) (by kernel_rfl) (fun _ _ _ h => h) (Or.inl ⟨by rfl, fun w' hSw => by go_simp⟩) hHeld ?_
            refine wpAnyH_take (i := 7) (v := .int .i64 j) rfl (by kernel_rfl) (by kernel_rfl) (by kernel_rfl) (fun _ _ _ h => h) (Or.inl ⟨by rfl, fun w' hSw => by go_simp⟩) hHeld ?_
            refine wpAnyH_take (i := 8) (v := .pointer (some ⟨g, of + j * 4, none⟩)) rfl (by kernel_rfl) (by kernel_rfl) (by kernel_rfl) (fun _ _ _ h => h) (Or.inl ⟨by rfl, fun w' hSw => by go_simp⟩) hHeld ?_
            refine wpAnyH_take (i := 9) (v := .pointer (some ⟨g, of + j * 4 + 1, none⟩)) rfl (by kernel_rfl) (by kernel_rfl) (by kernel_rfl) (fun _ _ _ h => h) (Or.inl ⟨by rfl, fun w' hSw => by go_simp⟩) hHeld ?_
            refine wpAnyH_take (i := 10) (v := .agg #[.int .i64 e0, .string e1, .slice zq zn zc]) rfl (by kernel_rfl) (by kernel_rfl) (by kernel_rfl) (fun _ _ _ h => h) (Or.inl ⟨by rfl, fun w' hSw => by obtain ⟨x0, x1, x2, x3⟩ := HCL.out w' hSw; go_simp⟩) hHeld ?_
            refine wpAnyH_take (i := 11) (v := .pointer (some ⟨w.heap.size, 0, none⟩)) rfl (by kernel_rfl) (by kernel_rfl) (by kernel_rfl) (fun _ _ _ h => h) (Or.inl ⟨by rfl, fun w' hSw => by go_simp⟩) hHeld ?_
            refine wpAnyH_take (i := 12) (v := .int .i64 n) rfl (by kernel_rfl) (by kernel_rfl) (by kernel_rfl) (fun _ _ _ h => h) (Or.inl ⟨by rfl, fun w' hSw => by have h0 := ent_cell (ent_below EAn.out (HBN.out.trans hSw)) 0 _ rfl; go_simp⟩) hHeld ?_
            refine wpAnyH_take (i := 13) (v := .agg #[.int .i64 ib, .string tb, .slice pb nb ob]) rfl (by kernel_rfl) (by kernel_rfl) (by kernel_rfl) (fun _ _ _ h => h) (Or.inl ⟨by rfl, fun w' hSw => by have h0 := ent_cell (ent_below EBn.out (HBN.out.trans hSw)) 0 _ rfl; have h1 := ent_cell (ent_below EBn.out (HBN.out.trans hSw)) 1 _ rfl; have h2 := ent_cell (ent_below EBn.out (HBN.out.trans hSw)) 2 _ rfl; go_simp⟩) hHeld ?_
            try simp only [Act.put, List.getElem_toArray, List.getElem_cons_succ, List.getElem_cons_zero, List.setIfInBounds_toArray, List.set_cons_zero, List.set_cons_succ]
            refine wpAnyH_ready (rs := [14]) (by kernel_rfl) (by simp) ?_
            refine AllReadyH.cons rfl (fun K hK => ?_) AllReadyH.nil
            go_simp
            refine (put_any _ _ _ bb n wn.heap.size wr.drew HBN.out.size HTY.out.now HTH.out HSX.out).mono ?_
            rintro e w5 ⟨rr, rfl, hb5, hh5⟩
            replace hb5 := undrew hb5
            obtain ⟨b0, b1, rq, rn, rc, rfl⟩ := tyP_sh hh5.now
            have HB5 := Lib.hid hb5
            have HH5 : Hid (Hang TyP wn.heap.size wr.heap.size w5.heap.size w5 (.agg #[.int .i64 b0, .string b1, .slice rq rn rc]) (Ux.put n bb x.2)) := Lib.hid hh5
            have HO5 := Lib.hid (own_kept HO.out hb5)
            clear hb5 hh5
            refine hK.out _ _ (HB5.out.mono HBN.out.size) (fun hHeld => ?_)
            clear hK K
            refine wpAnyH_ready (rs := [15]) (by kernel_rfl) (by simp) ?_
            refine AllReadyH.cons rfl (fun K hK => ?_) AllReadyH.nil
            go_simp
            refine hK.out _ _ (HB5.out.mono HBN.out.size) (fun hHeld => ?_)
            clear hK K
            refine wpAnyH_ready (rs := [16]) (by kernel_rfl) (by simp) ?_
            refine AllReadyH.cons rfl (fun K hK => ?_) AllReadyH.nil
            go_simp
            refine hK.out _ _ ((HB5.out.mono HBN.out.size).alloc (Nat.le_trans HBN.out.size HB5.out.size) _) (fun hHeld => ?_)
            clear hK K
            refine wpAnyH_ready (rs := [17]) (by kernel_rfl) (by simp) ?_
            refine AllReadyH.cons rfl (fun K hK => ?_) AllReadyH.nil
            refine step_append_loc rfl (.tmp 48) (.tmp 64) 27 rfl wn.heap.size 71 i0 (.agg #[.int .i64 0, .int .i64 0, .string ⟨#[]⟩, .slice none 0 0]) 4 56 Tryd.underlying27 I0.out I00.out I01.out I02.out rfl (by decide) _ j _ rfl (HO5.out.alloc _) ⟨w5.heap.size, 0, none⟩ 1 1 [.int .i64 x.1, .int .i64 b0, .string b1, .slice rq rn rc] rfl (by decide) rfl ?c1 ?c2 ?c3 ?c4 ?c5 ?_
            case c1 => exact fun jj u h => four_cells w5 _ _ _ _ _ jj u h
            case c2 => intro u hu; simp only [List.mem_cons, List.not_mem_nil, or_false] at hu; rcases hu with rfl | rfl | rfl | rfl <;> rfl
            case c3 => unfold maxLen; have := HLL.out; omega
            case c4 => have := HLL.out; omega
            case c5 => have h1 := HBN.out.size; have h2 := HB5.out.size; simp; omega
            intro v6 w6 hown hgr hloc
            obtain ⟨p6, c6, rfl⟩ := own_slice hown
            have hob : ∀ kk, (Value.slice pa1 j ca1).ownBlock = some kk → wn.heap.size ≤ kk := fun kk hkk => (HO5.out.lt kk hkk).1
            have HS56 : Hid (w5.heap.size ≤ w6.heap.size) := Lib.hid (by have := hgr.size; simp at this; omega)
            have HK6 : Hid (∀ b, b < w5.heap.size → (Value.slice pa1 j ca1).ownBlock ≠ some b → w6.heap[b]? = w5.heap[b]?) := Lib.hid (fun b hb hne => (hgr.block b (by simp; omega) (fun e => hne e.symm)).trans (Below.heap_alloc w5 _ b hb))
            have HOB := Lib.hid hob
            have HLOC : Hid ((Value.slice p6 (j + 1) c6).ownBlock = (Value.slice pa1 j ca1).ownBlock ∨ ∀ g, (Value.slice p6 (j + 1) c6).ownBlock = some g → w5.heap.size ≤ g) := Lib.hid (hloc.imp id fun h g hg => by have := h g hg; simp at this; omega)
            have HS6 : Hid (Below wn.heap.size wr w6) := Lib.hid (((HB5.out.mono (B' := wn.heap.size) HBN.out.size).alloc (Nat.le_trans HBN.out.size HB5.out.size) _).grown hgr (by have h1 := HBN.out.size; have h2 := HB5.out.size; simp; omega) (fun kk hkk => hob kk hkk))
            rw [← cells_four] at hown
            have HO6 := Lib.hid hown
            clear hown hgr hloc hob
            refine hK.out _ _ HS6.out (fun hHeld => ?_)
            clear hK K
            refine wpAnyH_take (i := 18) (v := .slice p6 (j + 1) c6) rfl (by kernel_rfl) (by kernel_rfl) (by kernel_rfl) (fun _ _ _ h => h) (Or.inl ⟨by rfl, fun w' hSw => by go_simp⟩) hHeld ?_
            simp only [Act.put, List.getElem_toArray, List.getElem_cons_succ, List.getElem_cons_zero, List.setIfInBounds_toArray, List.set_cons_zero, List.set_cons_succ]
            refine wpAnyH_done (by kernel_rfl) ?_ _
            clear hHeld
            have HR7 : Hid ((vs ++ [Value.agg #[.int .i64 x.1, .int .i64 b0, .string b1, .slice rq rn rc]]).length = j + 1 ∧ Reps (KeptH PairP wn.heap.size wn.heap.size w6 (Value.slice p6 (j + 1) c6).ownBlock) (vs ++ [Value.agg #[.int .i64 x.1, .int .i64 b0, .string b1, .slice rq rn rc]]) ((L.take (j + 1)).map fun p => (p.1, Ux.put n bb p.2)) ∧ ∀ z ∈ vs ++ [Value.agg #[.int .i64 x.1, .int .i64 b0, .string b1, .slice rq rn rc]], z.cells.size = 4) := Lib.hid (by
             obtain ⟨f1, f2, f3⟩ := HR1.out
             refine ⟨by simp [f1], ?_, fun z hz => (List.mem_append.1 hz).elim (f3 z) (fun h => by rw [List.mem_singleton.1 h]; rfl)⟩
             rw [HTK.out]
             have hs := HBN.out.size
             have hs5 := HB5.out.size
             refine Reps.snoc ?_ (f2.mono fun z y hzy => ?_)
             · refine KeptH.step (ob := (Value.slice pa1 j ca1).ownBlock) ⟨wr.heap.size, w5.heap.size, hs, Nat.le_refl _, fun g hg => .inl (HO.out.lt g hg).2, fun u hu => ⟨_, _, _, _, _, rfl, HH5.out u hu⟩⟩ HS56.out (by omega) (fun b h1 h2 h3 => HK6.out b h2 h3) HOB.out HLOC.out
             · refine KeptH.step (ob := (Value.slice pa1 j ca1).ownBlock) (hzy.step hs5 (by omega) (fun b _ h2 _ => HB5.out.block b h2) HOB.out (.inl rfl)) HS56.out (by omega) (fun b h1 h2 h3 => HK6.out b h2 h3) HOB.out HLOC.out)
            have HBN6 := Lib.hid (HBN.out.trans HS6.out)
            clear HR1 HO HB5 HH5 HO5 HS56 HK6 HOB HLOC HS6 HBN HCL HTY HBW
            go_wp2_with fail
            go_roundw
            case rel => exact ⟨j + 1, _, by go_num, by omega, HR7, HO6, HBN6⟩
            case measure => simp [intOf]; omega
          · obtain rfl : j = L.length := by omega
            have EAr := Lib.hid (ent_below EAn.out HBN.out); have EBr := Lib.hid (ent_below EBn.out HBN.out)
            have t0 := ent_cell EAr.out 0 _ rfl
            have u0 := ent_cell EBr.out 0 _ rfl
            have u1 := ent_cell EBr.out 1 _ rfl
            have u2 := ent_cell EBr.out 2 _ rfl
            have hnn : L.length ≤ 100000000000 := by omega
            have hsz : wn.heap.size ≤ wr.heap.size := HBN.out.size
            go_wp2_with (at_builtin; refine wpList_append_new eltPair wr rfl (.tmp 66) (.tmp 71) rfl wn.heap.size (.slice pa1 L.length ca1) L.length _ rfl HO.out #[.int .i64 n, .int .i64 ib, .string tb, .slice pb nb ob] 71 rfl rfl (by intro u hu; simp only [List.mem_cons, List.not_mem_nil, or_false] at hu; rcases hu with rfl | rfl | rfl | rfl <;> rfl) hnn hsz ?_)
            intro v6 w6 hown hch hloc
            obtain ⟨p6, c6, rfl⟩ := own_slice hown
            rw [show cellsOf vs ++ (#[.int .i64 (n : Int), .int .i64 ib, .string tb, .slice pb nb ob] : Array Value).toList = cellsOf (vs ++ [.agg #[.int .i64 (n : Int), .int .i64 ib, .string tb, .slice pb nb ob]]) from (cells_four vs _ _ _ _).symm] at hown
            have HW6 := Lib.hid hown; have HC6 := Lib.hid hch; have HL6 := Lib.hid hloc
            clear hown hch hloc hnn hsz t0 u0 u1 u2
            go_wp2_with fail
            go_ret2
            have hob : ∀ g, (Value.slice pa1 L.length ca1).ownBlock = some g → wn.heap.size ≤ g := fun g hg => (HO.out.lt g hg).1
            have hr := HR2.out
            subst hr
            have hb6 : Below wn.heap.size wn w6 := HBN.out.trans (HC6.out.below HBN.out.size fun k hk => hob k hk)
            refine ⟨_, rfl, HBs2.out.trans (hb6.mono HBs2.out.size), fun L' e => ?_⟩
            injection e with e
            subst e
            obtain ⟨f1, f2, f3⟩ := HR1.out
            rw [List.take_length] at f2
            have hs := HBN.out.size
            have hs6 := HC6.out.size
            refine rowH (base := wn.heap.size) HW6.out (by simp [Ux.bind]) ?_ (fun z hz => (List.mem_append.1 hz).elim (f3 z) (fun h => by rw [List.mem_singleton.1 h]; rfl)) (fun _ _ => rfl)
            refine Reps.snoc ?_ (f2.mono fun z y hzy => hzy.step hs6 hs (fun b _ h2 h3 => HC6.out.block b h2 h3) hob HL6.out)
            refine ⟨wn.heap.size, wn.heap.size, Nat.le_refl _, by omega, fun g hg => .inr ?_, fun u hu => ⟨_, _, _, _, _, rfl, HTH.out u fun b hb => (hu b (by omega)).trans (hb6.block b (by omega))⟩⟩
            rcases HL6.out with e | e
            · exact hob g (e ▸ hg)
            · have := e g hg; omega
     · have hsh := tyP_a.1 (show TyP wv (.agg #[.int .i64 ia, .string ta, .slice pa na oa]) (.a nm xs) by rw [← haa]; exact HAv.out.now)
       obtain ⟨kt, av, hkt, hva, hxa, _⟩ := hsh
       have hva2 : ia = kt ∧ ta = ⟨nm.toArray⟩ ∧ av = .slice pa na oa := by injection hva with hva; simp at hva; exact ⟨hva.1, hva.2.1, hva.2.2.symm⟩
       obtain ⟨rfl, hta2, rfl⟩ := hva2
       have HIA := Lib.hid hkt
       clear hva
       have d1 : decide (ia < 0) = true := by simp; exact hkt
       obtain ⟨n, hbb⟩ | ⟨nm', ys, hbb⟩ : (∃ n, bb = .v n) ∨ ∃ nm xs, bb = .a nm xs := by
        cases bb with
        | v n => exact .inl ⟨n, rfl⟩
        | a nm xs => exact .inr ⟨nm, xs, rfl⟩
       · obtain ⟨s9, q9, j9, c9, hvb⟩ := tyP_v.1 (show TyP wv (.agg #[.int .i64 ib, .string tb, .slice pb nb ob]) (.v n) by rw [← hbb]; exact HTv.out.now)
         have hib : ib = (n : Int) := by injection hvb with hvb; simp at hvb; exact hvb.1
         subst hib
         clear hvb hxa hta2
         have d2 : decide ((0 : Int) ≤ (n : Int)) = true := by simp
         have t0 := ent_cell EAv.out 0 _ rfl
         have t1 := ent_cell EAv.out 1 _ rfl
         have t2 := ent_cell EAv.out 2 _ rfl
         have u0 := ent_cell EBv.out 0 _ rfl
         have u1 := ent_cell EBv.out 1 _ rfl
         have u2 := ent_cell EBv.out 2 _ rfl
         have tf := ent_free EAv.out
         have uf := ent_free EBv.out
         have HR : Hid (r = Ux.headU L n aa) := Lib.hid (by rw [haa]; exact Ux.refU_swap HR0.out (HEA.out.symm.trans haa) (HEB.out.symm.trans hbb))
         go_upto_region 4 with fail
         clear tf uf t0 t1 t2 u0 u1 u2
         have HKs : Hid (∀ b, b ≠ w.heap.size → b ≠ w.heap.size + 1 → ((((((wv.setCell ⟨w.heap.size, 0, none⟩ (.int .i64 n)).setCell ⟨w.heap.size, 1, none⟩ (.string tb)).setCell ⟨w.heap.size, 2, none⟩ (.slice pb nb ob)).setCell ⟨w.heap.size + 1, 0, none⟩ (.int .i64 ia)).setCell ⟨w.heap.size + 1, 1, none⟩ (.string ta)).setCell ⟨w.heap.size + 1, 2, none⟩ (.slice pa na oa)).heap[b]? = wv.heap[b]?) := Lib.hid (fun b h1 h2 => (((((Below.heap_setCell _ ⟨w.heap.size + 1, 2, none⟩ _ b h2).trans (Below.heap_setCell _ ⟨w.heap.size + 1, 1, none⟩ _ b h2)).trans (Below.heap_setCell _ ⟨w.heap.size + 1, 0, none⟩ _ b h2)).trans (Below.heap_setCell _ ⟨w.heap.size, 2, none⟩ _ b h1)).trans (Below.heap_setCell _ ⟨w.heap.size, 1, none⟩ _ b h1)).trans (Below.heap_setCell _ ⟨w.heap.size, 0, none⟩ _ b h1))
         have HZs : Hid (((((((wv.setCell ⟨w.heap.size, 0, none⟩ (.int .i64 n)).setCell ⟨w.heap.size, 1, none⟩ (.string tb)).setCell ⟨w.heap.size, 2, none⟩ (.slice pb nb ob)).setCell ⟨w.heap.size + 1, 0, none⟩ (.int .i64 ia)).setCell ⟨w.heap.size + 1, 1, none⟩ (.string ta)).setCell ⟨w.heap.size + 1, 2, none⟩ (.slice pa na oa)).heap.size = wv.heap.size) := Lib.hid (by simp)
         have EAs := Lib.hid (ent_oth3 (ent_set3 EAv.out (.int .i64 n) (.string tb) (.slice pb nb ob)) (w.heap.size + 1) (by omega) (.int .i64 ia) (.string ta) (.slice pa na oa))
         have EBs := Lib.hid (ent_set3 (ent_oth3 EBv.out w.heap.size (by omega) (.int .i64 n) (.string tb) (.slice pb nb ob)) (.int .i64 ia) (.string ta) (.slice pa na oa))
         have HBs := Lib.hid (below_set3 (below_set3 HBv.out w.heap.size (Nat.le_refl _) (.int .i64 n) (.string tb) (.slice pb nb ob)) (w.heap.size + 1) (by omega) (.int .i64 ia) (.string ta) (.slice pa na oa))
         generalize ((((((wv.setCell ⟨w.heap.size, 0, none⟩ (.int .i64 n)).setCell ⟨w.heap.size, 1, none⟩ (.string tb)).setCell ⟨w.heap.size, 2, none⟩ (.slice pb nb ob)).setCell ⟨w.heap.size + 1, 0, none⟩ (.int .i64 ia)).setCell ⟨w.heap.size + 1, 1, none⟩ (.string ta)).setCell ⟨w.heap.size + 1, 2, none⟩ (.slice pa na oa)) = wS at HKs HZs EAs EBs HBs ⊢
         have HSs := Lib.hid (show w.heap.size + 2 ≤ wS.heap.size by rw [HZs.out]; exact HSv.out)
         have HTs := Lib.hid ((HAv.out.same (w' := wS) fun b hb => HKs.out b (by omega) (by omega)).wide (Nat.le_refl _) (Nat.le_refl _) (show _ ≤ wS.heap.size by rw [HZs.out]; exact Nat.le_refl _))
         clear HKs HZs EAv EBv HBv HSv HTv HAv d1
         have d1 : True := trivial
         have d3 : (ia == (n : Int)) = false := by have := HIA.out; simp; omega
         have t0 := ent_cell EAs.out 0 _ rfl
         have t1 := ent_cell EAs.out 1 _ rfl
         have t2 := ent_cell EAs.out 2 _ rfl
         have u0 := ent_cell EBs.out 0 _ rfl
         have u1 := ent_cell EBs.out 1 _ rfl
         have u2 := ent_cell EBs.out 2 _ rfl
         go_wp2_with fail
         refine (refHas_ty aa _ n wS HTs.out.now).mono ?_
         rintro e wn ⟨rfl, hbn⟩
         have HBs2 := Lib.hid (HBs.out.trans (hbn.mono HBs.out.size))
         have EAn := Lib.hid (ent_below EAs.out hbn); have EBn := Lib.hid (ent_below EBs.out hbn)
         have HTn := Lib.hid (HTs.out.same (w' := wn) fun b hb => hbn.block b (by have := HSs.out; omega))
         have HSn := Lib.hid (show w.heap.size + 2 ≤ wn.heap.size by have := HSs.out; have := hbn.size; omega)
         clear hbn HBs EAs EBs HTs HSs d1 d2 d3
         clear t0 t1 t2 u0 u1 u2
         by_cases hc : Ux.hasT aa n = true
         · rw [hc]
           go_wp2_with fail
           go_ret2
           have hr := HR.out
           rw [Ux.headU_none hc] at hr
           subst hr
           exact ⟨_, rfl, HBs2.out, fun L' e => by cases e⟩
         have hcf : Ux.hasT aa n = false := by simpa using hc
         rw [hcf]
         have HR2 := Lib.hid (HR.out.trans (Ux.headU_some hc))
         clear HR hc hcf
         have HTH := Lib.hid (tyP_hang HTn.out.now 0 0)
         have HO0 : Hid (wn.ownsRow wn.heap.size 71 4 (.slice none 0 0) 0 (cellsOf [])) := Lib.hid (own_none _ _ _ _ (Nat.le_refl _))
         go_wp2_with fail
         go_loopw [8, 9] (fun ov i wr => ∃ (j : Nat) (vs : List Value), i = .int .i64 j ∧ j ≤ L.length ∧ Hid (vs.length = j ∧ Reps (KeptH PairP wn.heap.size wn.heap.size wr ov.ownBlock) vs ((L.take j).map fun p => (p.1, Ux.put n aa p.2)) ∧ ∀ z ∈ vs, z.cells.size = 4) ∧ Hid (wr.ownsRow wn.heap.size 71 4 ov j (cellsOf vs)) ∧ Hid (Below wn.heap.size wn wr)) (fun _ i _ => L.length - (intOf i).toNat)
         case atStart => exact ⟨0, [], rfl, Nat.zero_le _, Lib.hid ⟨rfl, trivial, fun _ h => by cases h⟩, HO0, Lib.hid (Below.refl _ _)⟩
         case round =>
          clear HO0
          obtain ⟨j, vs, rfl, hj, HR1, HO, HBN⟩ := hrel
          obtain ⟨pa1, ca1, rfl⟩ := own_slice HO.out
          have hll := HLL.out
          by_cases hlt : j < L.length
          · obtain ⟨x, hx1⟩ : ∃ x, L[j]? = some x := ⟨_, List.getElem?_eq_getElem hlt⟩
            have HTK : Hid ((L.take (j + 1)).map (fun p => (p.1, Ux.put n aa p.2)) = (L.take j).map (fun p => (p.1, Ux.put n aa p.2)) ++ [(x.1, Ux.put n aa x.2)]) := Lib.hid (by rw [List.take_add_one, hx1]; simp)
            have HSX : Hid (x.2.sz ≤ 50000000000) := Lib.hid (by have := HEN.out x (List.mem_of_getElem? hx1); omega)
            have HBW := Lib.hid (HBs2.out.trans (HBN.out.mono HBs2.out.size))
            rcases pairs_below HL.out HBW.out with ⟨h0, _⟩ | ⟨g, of, c', hv, g1, g2, g3⟩
            · rw [h0] at hlt; simp at hlt
            injection hv with hq1 _ hq2
            subst hq1; subst hq2
            obtain ⟨z, ⟨e0, e1, zq, zn, zc, rfl, hty⟩, _, hcell⟩ := g3 j x hx1
            have HTY := Lib.hid (show Hang TyP wr.heap.size 0 0 wr.drew (.agg #[.int .i64 e0, .string e1, .slice zq zn zc]) x.2 from (tyP_hang hty 0 0).same fun b hb => rfl)
            have HTH := Lib.hid (HTH.out.same (w' := wr.drew) fun b hb => HBN.out.drew.block b (by omega))
            have hglt : g < wn.heap.size := by have h1 := World.block_lt_of_cell? w _ (pcell HL.out hx1); have h2 := HSn.out; dsimp only at h1; omega
            have HCL := Lib.hid (fun (w' : World) (h : Below wn.heap.size wr w') =>
             have up : ∀ j' z', (Value.agg #[.int .i64 x.1, .int .i64 e0, .string e1, .slice zq zn zc]).cells[j']? = some z' → w'.cell? ⟨g, of + j * 4 + j', none⟩ = some z' := fun j' z' hz' => (h.cell (p := ⟨g, of + j * 4 + j', none⟩) hglt).trans (hcell j' z' hz')
             (show w'.cell? ⟨g, of + j * 4, none⟩ = some (.int .i64 x.1) ∧ w'.cell? ⟨g, of + j * 4 + 1, none⟩ = some (.int .i64 e0) ∧ w'.cell? ⟨g, of + j * 4 + 2, none⟩ = some (.string e1) ∧ w'.cell? ⟨g, of + j * 4 + 3, none⟩ = some (.slice zq zn zc) from ⟨up 0 _ rfl, up 1 _ rfl, up 2 _ rfl, up 3 _ rfl⟩))
            have hk1 : (j : Int) < (L.length : Int) := by omega
            have hk2 : (L.length : Int) ≤ (cp : Int) := by omega
            have hk3 := g2
            have hk4 : (j : Int) ≤ 6 := by omega
            clear g1 g2 g3 hcell hx1 hty hglt
            go_upto_region 13 with fail
            refine wp_region_held_drew (S := fun (u : World) => Below wn.heap.size wr u) (by kernel_rfl) ((Below.refl _ _).drew) (fun hHeld => ?_)
            refine wpAnyH_take (i := 0) (v := .slice pa1 j ca1) rfl (by kernel_rfl) (by kernel_rfl) (by kernel_rfl) (fun _ _ _ h => h) (Or.inl ⟨by rfl, fun w' hSw => by go_simp⟩) hHeld ?_
            refine wpAnyH_take (i := 1) (v := .slice (some ⟨g, of, none⟩) L.length cp) rfl (by kernel_rfl) (by kernel_rfl) (by kernel_rfl) (fun _ _ _ h => h) (Or.inl ⟨by rfl, fun w' hSw => by go_simp⟩) hHeld ?_
            refine wpAnyH_take (i := 2) (v := .int .i64 j) rfl (by kernel_rfl) (by kernel_rfl) (by kernel_rfl) (fun _ _ _ h => h) (Or.inl ⟨by rfl, fun w' hSw => by go_simp⟩) hHeld ?_
            refine wpAnyH_take (i := 3) (v := .pointer (some ⟨g, of + j * 4, none⟩)) rfl (by kernel_rfl) (by kernel_rfl) (by kernel_rfl) (fun _ _ _ h => h) (Or.inl ⟨by rfl, fun w' hSw => by go_simp⟩) hHeld ?_
            refine wpAnyH_take (i := 4) (v := .pointer (some ⟨g, of + j * 4, none⟩)) rfl (by kernel_rfl) (by kernel_rfl) (by kernel_rfl) (fun _ _ _ h => h) (Or.inl ⟨by rfl, fun w' hSw => by go_simp⟩) hHeld ?_
            refine wpAnyH_take (i := 5) (v := .int .i64 x.1) rfl (by kernel_rfl) (by kernel_rfl) (by kernel_rfl) (fun _ _ _ h => h) (Or.inl ⟨by rfl, fun w' hSw => by obtain ⟨x0, x1, x2, x3⟩ := HCL.out w' hSw; go_simp⟩) hHeld ?_
            refine wpAnyH_take (i := 6) (v := .slice (some ⟨g, of, none⟩) L.length cp) rfl (by kernel_rfl) (by kernel_rfl) (by kernel_rfl) (fun _ _ _ h => h) (Or.inl ⟨by rfl, fun w' hSw => by go_simp⟩) hHeld ?_
            refine wpAnyH_take (i := 7) (v := .int .i64 j) rfl (by kernel_rfl) (by kernel_rfl) (by kernel_rfl) (fun _ _ _ h => h) (Or.inl ⟨by rfl, fun w' hSw => by go_simp⟩) hHeld ?_
            refine wpAnyH_take (i := 8) (v := .pointer (some ⟨g, of + j * 4, none⟩)) rfl (by kernel_rfl) (by kernel_rfl) (by kernel_rfl) (fun _ _ _ h => h) (Or.inl ⟨by rfl, fun w' hSw => by go_simp⟩) hHeld ?_
            refine wpAnyH_take (i := 9) (v := .pointer (some ⟨g, of + j * 4 + 1, none⟩)) rfl (by kernel_rfl) (by kernel_rfl) (by kernel_rfl) (fun _ _ _ h => h) (Or.inl ⟨by rfl, fun w' hSw => by go_simp⟩) hHeld ?_
            refine wpAnyH_take (i := 10) (v := .agg #[.int .i64 e0, .string e1, .slice zq zn zc]) rfl (by kernel_rfl) (by kernel_rfl) (by kernel_rfl) (fun _ _ _ h => h) (Or.inl ⟨by rfl, fun w' hSw => by obtain ⟨x0, x1, x2, x3⟩ := HCL.out w' hSw; go_simp⟩) hHeld ?_
            refine wpAnyH_take (i := 11) (v := .pointer (some ⟨w.heap.size, 0, none⟩)) rfl (by kernel_rfl) (by kernel_rfl) (by kernel_rfl) (fun _ _ _ h => h) (Or.inl ⟨by rfl, fun w' hSw => by go_simp⟩) hHeld ?_
            refine wpAnyH_take (i := 12) (v := .int .i64 n) rfl (by kernel_rfl) (by kernel_rfl) (by kernel_rfl) (fun _ _ _ h => h) (Or.inl ⟨by rfl, fun w' hSw => by have h0 := ent_cell (ent_below EAn.out (HBN.out.trans hSw)) 0 _ rfl; go_simp⟩) hHeld ?_
            refine wpAnyH_take (i := 13) (v := .agg #[.int .i64 ia, .string ta, .slice pa na oa]) rfl (by kernel_rfl) (by kernel_rfl) (by kernel_rfl) (fun _ _ _ h => h) (Or.inl ⟨by rfl, fun w' hSw => by have h0 := ent_cell (ent_below EBn.out (HBN.out.trans hSw)) 0 _ rfl; have h1 := ent_cell (ent_below EBn.out (HBN.out.trans hSw)) 1 _ rfl; have h2 := ent_cell (ent_below EBn.out (HBN.out.trans hSw)) 2 _ rfl; go_simp⟩) hHeld ?_
            try simp only [Act.put, List.getElem_toArray, List.getElem_cons_succ, List.getElem_cons_zero, List.setIfInBounds_toArray, List.set_cons_zero, List.set_cons_succ]
            refine wpAnyH_ready (rs := [14]) (by kernel_rfl) (by simp) ?_
            refine AllReadyH.cons rfl (fun K hK => ?_) AllReadyH.nil
            go_simp
            refine (put_any _ _ _ aa n wn.heap.size wr.drew HBN.out.size HTY.out.now HTH.out HSX.out).mono ?_
            rintro e w5 ⟨rr, rfl, hb5, hh5⟩
            replace hb5 := undrew hb5
            obtain ⟨b0, b1, rq, rn, rc, rfl⟩ := tyP_sh hh5.now
            have HB5 := Lib.hid hb5
            have HH5 : Hid (Hang TyP wn.heap.size wr.heap.size w5.heap.size w5 (.agg #[.int .i64 b0, .string b1, .slice rq rn rc]) (Ux.put n aa x.2)) := Lib.hid hh5
            have HO5 := Lib.hid (own_kept HO.out hb5)
            clear hb5 hh5
            refine hK.out _ _ (HB5.out.mono HBN.out.size) (fun hHeld => ?_)
            clear hK K
            refine wpAnyH_ready (rs := [15]) (by kernel_rfl) (by simp) ?_
            refine AllReadyH.cons rfl (fun K hK => ?_) AllReadyH.nil
            go_simp
            refine hK.out _ _ (HB5.out.mono HBN.out.size) (fun hHeld => ?_)
            clear hK K
            refine wpAnyH_ready (rs := [16]) (by kernel_rfl) (by simp) ?_
            refine AllReadyH.cons rfl (fun K hK => ?_) AllReadyH.nil
            go_simp
            refine hK.out _ _ ((HB5.out.mono HBN.out.size).alloc (Nat.le_trans HBN.out.size HB5.out.size) _) (fun hHeld => ?_)
            clear hK K
            refine wpAnyH_ready (rs := [17]) (by kernel_rfl) (by simp) ?_
            refine AllReadyH.cons rfl (fun K hK => ?_) AllReadyH.nil
            refine step_append_loc rfl (.tmp 48) (.tmp 64) 27 rfl wn.heap.size 71 i0 (.agg #[.int .i64 0, .int .i64 0, .string ⟨#[]⟩, .slice none 0 0]) 4 56 Tryd.underlying27 I0.out I00.out I01.out I02.out rfl (by decide) _ j _ rfl (HO5.out.alloc _) ⟨w5.heap.size, 0, none⟩ 1 1 [.int .i64 x.1, .int .i64 b0, .string b1, .slice rq rn rc] rfl (by decide) rfl ?c1 ?c2 ?c3 ?c4 ?c5 ?_
            case c1 => exact fun jj u h => four_cells w5 _ _ _ _ _ jj u h
            case c2 => intro u hu; simp only [List.mem_cons, List.not_mem_nil, or_false] at hu; rcases hu with rfl | rfl | rfl | rfl <;> rfl
            case c3 => unfold maxLen; have := HLL.out; omega
            case c4 => have := HLL.out; omega
            case c5 => have h1 := HBN.out.size; have h2 := HB5.out.size; simp; omega
            intro v6 w6 hown hgr hloc
            obtain ⟨p6, c6, rfl⟩ := own_slice hown
            have hob : ∀ kk, (Value.slice pa1 j ca1).ownBlock = some kk → wn.heap.size ≤ kk := fun kk hkk => (HO5.out.lt kk hkk).1
            have HS56 : Hid (w5.heap.size ≤ w6.heap.size) := Lib.hid (by have := hgr.size; simp at this; omega)
            have HK6 : Hid (∀ b, b < w5.heap.size → (Value.slice pa1 j ca1).ownBlock ≠ some b → w6.heap[b]? = w5.heap[b]?) := Lib.hid (fun b hb hne => (hgr.block b (by simp; omega) (fun e => hne e.symm)).trans (Below.heap_alloc w5 _ b hb))
            have HOB := Lib.hid hob
            have HLOC : Hid ((Value.slice p6 (j + 1) c6).ownBlock = (Value.slice pa1 j ca1).ownBlock ∨ ∀ g, (Value.slice p6 (j + 1) c6).ownBlock = some g → w5.heap.size ≤ g) := Lib.hid (hloc.imp id fun h g hg => by have := h g hg; simp at this; omega)
            have HS6 : Hid (Below wn.heap.size wr w6) := Lib.hid (((HB5.out.mono (B' := wn.heap.size) HBN.out.size).alloc (Nat.le_trans HBN.out.size HB5.out.size) _).grown hgr (by have h1 := HBN.out.size; have h2 := HB5.out.size; simp; omega) (fun kk hkk => hob kk hkk))
            rw [← cells_four] at hown
            have HO6 := Lib.hid hown
            clear hown hgr hloc hob
            refine hK.out _ _ HS6.out (fun hHeld => ?_)
            clear hK K
            refine wpAnyH_take (i := 18) (v := .slice p6 (j + 1) c6) rfl (by kernel_rfl) (by kernel_rfl) (by kernel_rfl) (fun _ _ _ h => h) (Or.inl ⟨by rfl, fun w' hSw => by go_simp⟩) hHeld ?_
            simp only [Act.put, List.getElem_toArray, List.getElem_cons_succ, List.getElem_cons_zero, List.setIfInBounds_toArray, List.set_cons_zero, List.set_cons_succ]
            refine wpAnyH_done (by kernel_rfl) ?_ _
            clear hHeld
            have HR7 : Hid ((vs ++ [Value.agg #[.int .i64 x.1, .int .i64 b0, .string b1, .slice rq rn rc]]).length = j + 1 ∧ Reps (KeptH PairP wn.heap.size wn.heap.size w6 (Value.slice p6 (j + 1) c6).ownBlock) (vs ++ [Value.agg #[.int .i64 x.1, .int .i64 b0, .string b1, .slice rq rn rc]]) ((L.take (j + 1)).map fun p => (p.1, Ux.put n aa p.2)) ∧ ∀ z ∈ vs ++ [Value.agg #[.int .i64 x.1, .int .i64 b0, .string b1, .slice rq rn rc]], z.cells.size = 4) := Lib.hid (by
             obtain ⟨f1, f2, f3⟩ := HR1.out
             refine ⟨by simp [f1], ?_, fun z hz => (List.mem_append.1 hz).elim (f3 z) (fun h => by rw [List.mem_singleton.1 h]; rfl)⟩
             rw [HTK.out]
             have hs := HBN.out.size
             have hs5 := HB5.out.size
             refine Reps.snoc ?_ (f2.mono fun z y hzy => ?_)
             · refine KeptH.step (ob := (Value.slice pa1 j ca1).ownBlock) ⟨wr.heap.size, w5.heap.size, hs, Nat.le_refl _, fun g hg => .inl (HO.out.lt g hg).2, fun u hu => ⟨_, _, _, _, _, rfl, HH5.out u hu⟩⟩ HS56.out (by omega) (fun b h1 h2 h3 => HK6.out b h2 h3) HOB.out HLOC.out
             · refine KeptH.step (ob := (Value.slice pa1 j ca1).ownBlock) (hzy.step hs5 (by omega) (fun b _ h2 _ => HB5.out.block b h2) HOB.out (.inl rfl)) HS56.out (by omega) (fun b h1 h2 h3 => HK6.out b h2 h3) HOB.out HLOC.out)
            have HBN6 := Lib.hid (HBN.out.trans HS6.out)
            clear HR1 HO HB5 HH5 HO5 HS56 HK6 HOB HLOC HS6 HBN HCL HTY HBW
            go_wp2_with fail
            go_roundw
            case rel => exact ⟨j + 1, _, by go_num, by omega, HR7, HO6, HBN6⟩
            case measure => simp [intOf]; omega
          · obtain rfl : j = L.length := by omega
            have EAr := Lib.hid (ent_below EAn.out HBN.out); have EBr := Lib.hid (ent_below EBn.out HBN.out)
            have t0 := ent_cell EAr.out 0 _ rfl
            have u0 := ent_cell EBr.out 0 _ rfl
            have u1 := ent_cell EBr.out 1 _ rfl
            have u2 := ent_cell EBr.out 2 _ rfl
            have hnn : L.length ≤ 100000000000 := by omega
            have hsz : wn.heap.size ≤ wr.heap.size := HBN.out.size
            go_wp2_with (at_builtin; refine wpList_append_new eltPair wr rfl (.tmp 66) (.tmp 71) rfl wn.heap.size (.slice pa1 L.length ca1) L.length _ rfl HO.out #[.int .i64 n, .int .i64 ia, .string ta, .slice pa na oa] 71 rfl rfl (by intro u hu; simp only [List.mem_cons, List.not_mem_nil, or_false] at hu; rcases hu with rfl | rfl | rfl | rfl <;> rfl) hnn hsz ?_)
            intro v6 w6 hown hch hloc
            obtain ⟨p6, c6, rfl⟩ := own_slice hown
            rw [show cellsOf vs ++ (#[.int .i64 (n : Int), .int .i64 ia, .string ta, .slice pa na oa] : Array Value).toList = cellsOf (vs ++ [.agg #[.int .i64 (n : Int), .int .i64 ia, .string ta, .slice pa na oa]]) from (cells_four vs _ _ _ _).symm] at hown
            have HW6 := Lib.hid hown; have HC6 := Lib.hid hch; have HL6 := Lib.hid hloc
            clear hown hch hloc hnn hsz t0 u0 u1 u2
            go_wp2_with fail
            go_ret2
            have hob : ∀ g, (Value.slice pa1 L.length ca1).ownBlock = some g → wn.heap.size ≤ g := fun g hg => (HO.out.lt g hg).1
            have hr := HR2.out
            subst hr
            have hb6 : Below wn.heap.size wn w6 := HBN.out.trans (HC6.out.below HBN.out.size fun k hk => hob k hk)
            refine ⟨_, rfl, HBs2.out.trans (hb6.mono HBs2.out.size), fun L' e => ?_⟩
            injection e with e
            subst e
            obtain ⟨f1, f2, f3⟩ := HR1.out
            rw [List.take_length] at f2
            have hs := HBN.out.size
            have hs6 := HC6.out.size
            refine rowH (base := wn.heap.size) HW6.out (by simp [Ux.bind]) ?_ (fun z hz => (List.mem_append.1 hz).elim (f3 z) (fun h => by rw [List.mem_singleton.1 h]; rfl)) (fun _ _ => rfl)
            refine Reps.snoc ?_ (f2.mono fun z y hzy => hzy.step hs6 hs (fun b _ h2 h3 => HC6.out.block b h2 h3) hob HL6.out)
            refine ⟨wn.heap.size, wn.heap.size, Nat.le_refl _, by omega, fun g hg => .inr ?_, fun u hu => ⟨_, _, _, _, _, rfl, HTH.out u fun b hb => (hu b (by omega)).trans (hb6.block b (by omega))⟩⟩
            rcases HL6.out with e | e
            · exact hob g (e ▸ hg)
            · have := e g hg; omega
       · obtain ⟨kt', av', hkt', hvb, hxb, _⟩ := tyP_a.1 (show TyP wv (.agg #[.int .i64 ib, .string tb, .slice pb nb ob]) (.a nm' ys) by rw [← hbb]; exact HTv.out.now)
         have hvb2 : ib = kt' ∧ tb = ⟨nm'.toArray⟩ ∧ av' = .slice pb nb ob := by injection hvb with hvb; simp at hvb; exact ⟨hvb.1, hvb.2.1, hvb.2.2.symm⟩
         obtain ⟨rfl, htb2, rfl⟩ := hvb2
         subst hta2
         subst htb2
         clear hvb
         have hla := hxa.lenIs
         have hlb := hxb.lenIs
         subst hla
         subst hlb
         have d2 : decide ((0 : Int) ≤ ib) = false := by simp; exact hkt'
         have d3 : decide ((0 : Int) ≤ ia) = false := by simp; exact hkt
         have t0 := ent_cell EAv.out 0 _ rfl
         have t1 := ent_cell EAv.out 1 _ rfl
         have t2 := ent_cell EAv.out 2 _ rfl
         have u0 := ent_cell EBv.out 0 _ rfl
         have u1 := ent_cell EBv.out 1 _ rfl
         have u2 := ent_cell EBv.out 2 _ rfl
         rcases Ux.refU_both HR0.out (HEA.out.symm.trans haa) (HEB.out.symm.trans hbb) with ⟨hne, hr⟩ | ⟨hnm, hle, hloop⟩
         · subst hr
           by_cases hnm : nm = nm'
           · subst hnm
             have hle : ¬ xs.length = ys.length := hne.resolve_left (fun h => h rfl)
             have d4 : ((xs.length : Int) == (ys.length : Int)) = false := by simp; omega
             clear hne
             go_wp2_with fail
             go_ret2
             exact ⟨_, rfl, HBv.out, fun L' e => by cases e⟩
           · have d4 : ((⟨nm.toArray⟩ : ByteArray) == ⟨nm'.toArray⟩) = false := names_differ hnm
             clear hne
             go_wp2_with fail
             go_ret2
             exact ⟨_, rfl, HBv.out, fun L' e => by cases e⟩
         · subst hnm
           rw [← hle] at EBv HTv ⊢
           clear u0 u1 u2
           have u0 := ent_cell EBv.out 0 _ rfl
           have u1 := ent_cell EBv.out 1 _ rfl
           have u2 := ent_cell EBv.out 2 _ rfl
           have HLOOP := Lib.hid hloop; have HLE := Lib.hid hle
           clear hloop hle hxa hxb hkt hkt'
           go_upto_region 17 with fail
           clear d1 d2 d3 t0 t1 t2 u0 u1 u2
           have HHA := Lib.hid (show ∀ u, Below wv.heap.size wv u → RowAt 3 (TyP u) u (.slice pa xs.length oa) xs from fun u hu => ty_row (nm := nm) (by rw [← haa]; exact tyP_below HAv.out.now hu))
           have HHB := Lib.hid (show ∀ u, Below wv.heap.size wv u → RowAt 3 (TyP u) u (.slice pb xs.length ob) ys from fun u hu => ty_row (nm := nm) (by rw [← hbb]; exact tyP_below HTv.out.now hu))
           have HPX := Lib.hid (show ∀ x ∈ xs, Ux.OfS S L x ∧ ∀ m ∈ x.vs, m ∈ V from fun x hx => ⟨HOA.out.parts hok.parts HI.out.solved HTR.out (HEA.out.symm.trans haa) x hx, fun m hm => Ux.sub_vs_in HI.out HAV.out m (by rw [← HEA.out, haa, Ux.vs_a]; exact List.mem_flatMap.2 ⟨x, hx, hm⟩)⟩)
           have HPY := Lib.hid (show ∀ y ∈ ys, Ux.OfS S L y ∧ ∀ m ∈ y.vs, m ∈ V from fun x hx => ⟨HOB'.out.parts hok.parts HI.out.solved HTR.out (HEB.out.symm.trans hbb) x hx, fun m hm => Ux.sub_vs_in HI.out HBV.out m (by rw [← HEB.out, hbb, Ux.vs_a]; exact List.mem_flatMap.2 ⟨x, hx, hm⟩)⟩)
           have HIN0 := Lib.hid (⟨HI.out, HTR.out, Ux.ExtL.refl HI.out.solved⟩ : Ux.Inv V L ∧ Ux.Tri S L ∧ Ux.ExtL L L)
           have HLV0 := Lib.hid (pairs_below HL.out HBv.out)
           go_wp2_with fail
           go_loopw [0, 6, 7, 10, 11, 12] (fun lvr _ _ i _ _ wr => ∃ (j : Nat) (M : Ux.Pairs), i = .int .i64 j ∧ j ≤ xs.length ∧ Hid (RowAt 4 (PairP wr) wr lvr M) ∧ Hid (Ux.Inv V M ∧ Ux.Tri S M ∧ Ux.ExtL L M) ∧ Hid (Ux.loopU (Ux.refU f) M (xs.drop j) (ys.drop j) = some r) ∧ Hid (Below wv.heap.size wv wr)) (fun _ _ _ i _ _ _ => xs.length - (intOf i).toNat)
           case atStart => exact ⟨0, L, rfl, Nat.zero_le _, HLV0, HIN0, HLOOP, Lib.hid (Below.refl _ _)⟩
           case round =>
            clear HLV0 HIN0 HLOOP
            obtain ⟨j, M, rfl, hj, HLV, HIN, HLOOP, HW⟩ := hrel
            obtain ⟨lq, lcc, rfl⟩ := HLV.out.len
            have EAr := Lib.hid (ent_below EAv.out HW.out); have EBr := Lib.hid (ent_below EBv.out HW.out)
            have t2 := ent_cell EAr.out 2 _ rfl
            by_cases hlt : j < xs.length
            · obtain ⟨x, hx⟩ : ∃ x, xs[j]? = some x := ⟨_, List.getElem?_eq_getElem hlt⟩
              obtain ⟨y, hy⟩ : ∃ y, ys[j]? = some y := ⟨_, List.getElem?_eq_getElem (by have := HLE.out; omega)⟩
              have hxd : xs.drop j = x :: xs.drop (j + 1) := by
               obtain ⟨h1, h2⟩ := List.getElem?_eq_some_iff.1 hx; rw [← h2]; exact List.drop_eq_getElem_cons h1
              have hyd : ys.drop j = y :: ys.drop (j + 1) := by
               obtain ⟨h1, h2⟩ := List.getElem?_eq_some_iff.1 hy; rw [← h2]; exact List.drop_eq_getElem_cons h1
              have hst : ∃ o, Ux.refU f M x y = some o ∧ (o = none → r = none) ∧ ∀ M', o = some M' → Ux.loopU (Ux.refU f) M' (xs.drop (j + 1)) (ys.drop (j + 1)) = some r := by
               have h := HLOOP.out
               rw [hxd, hyd] at h
               rcases Ux.loopU_step h with ⟨h1, h2⟩ | ⟨M', h1, h2⟩
               · exact ⟨none, h1, fun _ => h2, fun M' e => by cases e⟩
               · exact ⟨some M', h1, (fun e => by cases e), fun M2 e => by injection e with e; rw [← e]; exact h2⟩
              obtain ⟨o, ho, ho1, ho2⟩ := hst
              have hox := ((HPX.out x (List.mem_of_getElem? hx)).1).ext HIN.out.2.2
              have hoy := ((HPY.out y (List.mem_of_getElem? hy)).1).ext HIN.out.2.2
              obtain ⟨gx, ox, rfl, hc1, hc1', vx, sx, qx, nx, ccx, htx, hcx⟩ := ty_at (HHA.out wr HW.out) hx
              obtain ⟨gy, oy, rfl, hc2, hc2', vy, sy, qy, ny, ccy, hty, hcy⟩ := ty_at (HHB.out wr HW.out) hy
              have HCX := Lib.hid hcx; have HCY := Lib.hid hcy
              have HCALL := Lib.hid (HIH.out M x y o (.slice lq M.length lcc) _ _ wr.drew ho HIN.out.1 HIN.out.2.1 hox hoy (HPX.out x (List.mem_of_getElem? hx)).2 (HPY.out y (List.mem_of_getElem? hy)).2 (pairs_below HLV.out (Below.refl _ _).drew) (tyP_below htx (Below.refl _ _).drew) (tyP_below hty (Below.refl _ _).drew))
              have HO1 := Lib.hid ho1; have HO2 := Lib.hid ho2
              have HNXT := Lib.hid (show ∀ M', o = some M' → Ux.Inv V M' ∧ Ux.Tri S M' ∧ Ux.ExtL L M' from fun M' e => by
               subst e
               have h3 := Ux.refU_tri hok.parts f M x y HIN.out.1.solved HIN.out.2.1 hox hoy
               rw [ho] at h3
               exact ⟨Ux.refU_inv HIN.out.1 (HPX.out x (List.mem_of_getElem? hx)).2 (HPY.out y (List.mem_of_getElem? hy)).2 ho, h3.2.1, HIN.out.2.2.trans h3.2.2⟩)
              have EAd := Lib.hid (show wr.drew.heap[w.heap.size]? = some (.cells #[.int .i64 ia, .string ⟨nm.toArray⟩, .slice (some ⟨gx, ox, none⟩) xs.length oa] 30 (0, 0)) from EAr.out)
              have EBd := Lib.hid (show wr.drew.heap[w.heap.size + 1]? = some (.cells #[.int .i64 ib, .string ⟨nm.toArray⟩, .slice (some ⟨gy, oy, none⟩) xs.length ob] 30 (0, 0)) from EBr.out)
              have hk1 : (j : Int) < (xs.length : Int) := by omega
              have hk2 : (xs.length : Int) ≤ (oa : Int) := by omega
              have hk4 : (xs.length : Int) ≤ (ob : Int) := by have := HLE.out; omega
              clear ho ho1 ho2 hox hoy htx hty hcx hcy hxd hyd hx hy HLV HIN HLOOP
              go_upto_region 20 with fail
              refine wp_region_held_drew (S := fun (u : World) => u.heap[w.heap.size]? = some (.cells #[.int .i64 ia, .string ⟨nm.toArray⟩, .slice (some ⟨gx, ox, none⟩) xs.length oa] 30 (0, 0)) ∧ u.heap[w.heap.size + 1]? = some (.cells #[.int .i64 ib, .string ⟨nm.toArray⟩, .slice (some ⟨gy, oy, none⟩) xs.length ob] 30 (0, 0)) ∧ Below wr.heap.size wr u) (by kernel_rfl) (⟨EAd.out, EBd.out, (Below.refl _ _).drew⟩) (fun hHeld => ?_)
              refine wpAnyH_take (i := 0) (v := .slice lq M.length lcc) rfl (by kernel_rfl) (by kernel_rfl) (by kernel_rfl) (fun _ _ _ h => h) (Or.inl ⟨by rfl, fun w' hSw => by go_simp⟩) hHeld ?_
              refine wpAnyH_take (i := 1) (v := .pointer (some ⟨w.heap.size, 2, none⟩)) rfl (by kernel_rfl) (by kernel_rfl) (by kernel_rfl) (fun _ _ _ h => h) (Or.inl ⟨by rfl, fun w' hSw => by go_simp⟩) hHeld ?_
              refine wpAnyH_take (i := 2) (v := .slice (some ⟨gx, ox, none⟩) xs.length oa) rfl (by kernel_rfl) (by kernel_rfl) (by kernel_rfl) (fun _ _ _ h => h) (Or.inl ⟨by rfl, fun w' hSw => by have h2 := ent_cell hSw.1 2 _ rfl; go_simp⟩) hHeld ?_
              refine wpAnyH_take (i := 3) (v := .int .i64 j) rfl (by kernel_rfl) (by kernel_rfl) (by kernel_rfl) (fun _ _ _ h => h) (Or.inl ⟨by rfl, fun w' hSw => by go_simp⟩) hHeld ?_
              refine wpAnyH_take (i := 4) (v := .pointer (some ⟨gx, ox + j * 3, none⟩)) rfl (by kernel_rfl) (by kernel_rfl) (by kernel_rfl) (fun _ _ _ h => h) (Or.inl ⟨by rfl, fun w' hSw => by go_simp⟩) hHeld ?_
              refine wpAnyH_take (i := 5) (v := .agg #[.int .i64 vx, .string sx, .slice qx nx ccx]) rfl (by kernel_rfl) (by kernel_rfl) (by kernel_rfl) (fun _ _ _ h => h) (Or.inl ⟨by rfl, fun w' hSw => by obtain ⟨x0, x1, x2⟩ := HCX.out w' hSw.2.2; go_simp⟩) hHeld ?_
              refine wpAnyH_take (i := 6) (v := .pointer (some ⟨w.heap.size + 1, 2, none⟩)) rfl (by kernel_rfl) (by kernel_rfl) (by kernel_rfl) (fun _ _ _ h => h) (Or.inl ⟨by rfl, fun w' hSw => by go_simp⟩) hHeld ?_
              refine wpAnyH_take (i := 7) (v := .slice (some ⟨gy, oy, none⟩) xs.length ob) rfl (by kernel_rfl) (by kernel_rfl) (by kernel_rfl) (fun _ _ _ h => h) (Or.inl ⟨by rfl, fun w' hSw => by have h2 := ent_cell hSw.2.1 2 _ rfl; go_simp⟩) hHeld ?_
              refine wpAnyH_take (i := 8) (v := .int .i64 j) rfl (by kernel_rfl) (by kernel_rfl) (by kernel_rfl) (fun _ _ _ h => h) (Or.inl ⟨by rfl, fun w' hSw => by go_simp⟩) hHeld ?_
              refine wpAnyH_take (i := 9) (v := .pointer (some ⟨gy, oy + j * 3, none⟩)) rfl (by kernel_rfl) (by kernel_rfl) (by kernel_rfl) (fun _ _ _ h => h) (Or.inl ⟨by rfl, fun w' hSw => by go_simp⟩) hHeld ?_
              refine wpAnyH_take (i := 10) (v := .agg #[.int .i64 vy, .string sy, .slice qy ny ccy]) rfl (by kernel_rfl) (by kernel_rfl) (by kernel_rfl) (fun _ _ _ h => h) (Or.inl ⟨by rfl, fun w' hSw => by obtain ⟨x0, x1, x2⟩ := HCY.out w' hSw.2.2; go_simp⟩) hHeld ?_
              try simp only [Act.put, List.getElem_toArray, List.getElem_cons_succ, List.getElem_cons_zero, List.setIfInBounds_toArray, List.set_cons_zero, List.set_cons_succ]
              refine wpAnyH_ready (rs := [11]) (by kernel_rfl) (by simp) ?_
              refine AllReadyH.cons rfl (fun K hK => ?_) AllReadyH.nil
              go_simp
              refine HCALL.out.mono ?_
              rintro e w8 ⟨lv2, rfl, hb, hrow⟩
              replace hb := undrew hb
              have HROW := Lib.hid hrow
              have HW8 := Lib.hid (HW.out.trans (hb.mono HW.out.size))
              refine hK.out _ _ ⟨ent_below EAr.out hb, ent_below EBr.out hb, hb⟩ (fun hHeld => ?_)
              clear hb hrow
              clear hK K
              refine wpAnyH_take (i := 12) (v := .tuple #[lv2, .bool o.isSome]) rfl (by kernel_rfl) (by kernel_rfl) (by kernel_rfl) (fun _ _ _ h => h) (Or.inl ⟨by rfl, fun w' hSw => by go_simp⟩) hHeld ?_
              simp only [Act.put, List.getElem_toArray, List.getElem_cons_succ, List.getElem_cons_zero, List.setIfInBounds_toArray, List.set_cons_zero, List.set_cons_succ]
              refine wpAnyH_take (i := 13) (v := lv2) rfl (by kernel_rfl) (by kernel_rfl) (by kernel_rfl) (fun _ _ _ h => h) (Or.inl ⟨by rfl, fun w' hSw => by go_simp⟩) hHeld ?_
              simp only [Act.put, List.getElem_toArray, List.getElem_cons_succ, List.getElem_cons_zero, List.setIfInBounds_toArray, List.set_cons_zero, List.set_cons_succ]
              refine wpAnyH_take (i := 14) (v := .bool o.isSome) rfl (by kernel_rfl) (by kernel_rfl) (by kernel_rfl) (fun _ _ _ h => h) (Or.inl ⟨by rfl, fun w' hSw => by go_simp⟩) hHeld ?_
              simp only [Act.put, List.getElem_toArray, List.getElem_cons_succ, List.getElem_cons_zero, List.setIfInBounds_toArray, List.set_cons_zero, List.set_cons_succ]
              refine wpAnyH_take (i := 15) (v := lv2) rfl (by kernel_rfl) (by kernel_rfl) (by kernel_rfl) (fun _ _ _ h => h) (Or.inl ⟨by rfl, fun w' hSw => by go_simp⟩) hHeld ?_
              simp only [Act.put, List.getElem_toArray, List.getElem_cons_succ, List.getElem_cons_zero, List.setIfInBounds_toArray, List.set_cons_zero, List.set_cons_succ]
              refine wpAnyH_take (i := 16) (v := .bool o.isSome) rfl (by kernel_rfl) (by kernel_rfl) (by kernel_rfl) (fun _ _ _ h => h) (Or.inl ⟨by rfl, fun w' hSw => by go_simp⟩) hHeld ?_
              simp only [Act.put, List.getElem_toArray, List.getElem_cons_succ, List.getElem_cons_zero, List.setIfInBounds_toArray, List.set_cons_zero, List.set_cons_succ]
              refine wpAnyH_done (by kernel_rfl) ?_ _
              clear hHeld
              cases o with
              | none =>
                have hr := HO1.out rfl
                subst hr
                go_wp2_with fail
                go_ret2
                exact ⟨_, rfl, HBv.out.trans (HW8.out.mono HBv.out.size), fun L' e => by cases e⟩
              | some M' =>
                go_wp2_with fail
                go_roundw
                case rel => exact ⟨j + 1, M', by go_num, by omega, Lib.hid (HROW.out M' rfl), Lib.hid (HNXT.out M' rfl), Lib.hid (HO2.out M' rfl), HW8⟩
                case measure => simp [intOf]; omega
            · obtain rfl : j = xs.length := by omega
              have hr : r = some M := by
               have h := HLOOP.out
               rw [List.drop_length, HLE.out, List.drop_length] at h
               unfold Ux.loopU at h
               injection h with h; exact h.symm
              go_wp2_with fail
              go_ret2
              subst hr
              exact ⟨_, rfl, HBv.out.trans (HW.out.mono HBv.out.size), fun L' e => by injection e with e; rw [← e]; exact HLV.out⟩
 · have t0 := ent_cell EB.out 0 _ rfl
   have t1 := ent_cell EB.out 1 _ rfl
   have t2 := ent_cell EB.out 2 _ rfl
   go_simp
   refine hK.out _ _ ⟨HB.out, HS.out⟩ (fun hHeld => ?_)
   clear hK K t0 t1 t2
   refine wpAnyH_ready (rs := [1]) (by kernel_rfl) (by simp) ?_
   refine AllReadyH.cons rfl (fun K hK => ?_) AllReadyH.nil
   have t0 := ent_cell EA.out 0 _ rfl
   have t1 := ent_cell EA.out 1 _ rfl
   have t2 := ent_cell EA.out 2 _ rfl
   go_simp
   refine hK.out _ _ ⟨HB.out, HS.out⟩ (fun hHeld => ?_)
   clear hK K t0 t1 t2
   refine wpAnyH_ready (rs := [2]) (by kernel_rfl) (by simp) ?_
   refine AllReadyH.cons rfl (fun K hK => ?_) AllReadyH.nil
   go_simp
   refine (applyB_any _ _ L a w.heap.size wc (by have := HS.out; omega) (pairs_up HL.out HB.out) ((tyP_hang HTA.out 0 0).same fun b hb => HB.out.block b (by omega)) (fun k => Nat.le_trans (Ux.app_take L a k) (by rw [← HEA.out]; have := HSA.out; omega))).mono ?_
   rintro e wy ⟨ra, rfl, hb, hh⟩
   rw [← HEA.out] at hh
   obtain ⟨ia, ta, pa, na, oa, rfl⟩ := tyP_sh hh.now
   have EAy := Lib.hid (ent_below EA.out hb); have EBy := Lib.hid (ent_below EB.out hb)
   have HBy := Lib.hid (HB.out.trans (hb.mono (by have := HS.out; omega)))
   have HSy := Lib.hid (show w.heap.size + 2 ≤ wy.heap.size by have := HS.out; have := hb.size; omega)
   have HHA := Lib.hid (hh.wide (Nat.le_refl _) (show w.heap.size + 2 ≤ wc.heap.size from HS.out) (Nat.le_refl _))
   clear hb hh EA EB HB HS
   have EA := EAy; have EB := EBy; have HB := HBy; have HS := HSy
   clear EAy EBy HBy HSy
   refine hK.out _ _ ⟨HB.out, HS.out⟩ (fun hHeld => ?_)
   clear hK K
   refine wpAnyH_ready (rs := [5]) (by kernel_rfl) (by simp) ?_
   refine AllReadyH.cons rfl (fun K hK => ?_) AllReadyH.nil
   go_simp
   refine (applyB_any _ _ L b w.heap.size wy (by have := HS.out; omega) (pairs_up HL.out HB.out) ((tyP_hang HTB.out 0 0).same fun b hb => HB.out.block b (by omega)) (fun k => Nat.le_trans (Ux.app_take L b k) (by rw [← HEB.out]; have := HSB.out; omega))).mono ?_
   rintro e wz ⟨rb, rfl, hb, hh⟩
   rw [← HEB.out] at hh
   obtain ⟨ib, tb, pb, nb, ob, rfl⟩ := tyP_sh hh.now
   have EAy := Lib.hid (ent_below EA.out hb); have EBy := Lib.hid (ent_below EB.out hb)
   have HBy := Lib.hid (HB.out.trans (hb.mono (by have := HS.out; omega)))
   have HSy := Lib.hid (show w.heap.size + 2 ≤ wz.heap.size by have := HS.out; have := hb.size; omega)
   have HHB := Lib.hid (hh.wide (Nat.le_refl _) (show w.heap.size + 2 ≤ wy.heap.size from HS.out) (Nat.le_refl _))
   have HHAy := Lib.hid (HHA.out.same (w' := wz) fun b hb' => hb.block b (by have := HS.out; omega))
   have HZY := Lib.hid hb.size
   clear hb hh EA EB HB HS HHA
   have EA := EAy; have EB := EBy; have HB := HBy; have HS := HSy; have HHA := HHAy
   clear EAy EBy HBy HSy HHAy
   refine hK.out _ _ ⟨HB.out, HS.out⟩ (fun hHeld => ?_)
   clear hK K
   refine wpAnyH_ready (rs := [6]) (by kernel_rfl) (by simp) ?_
   refine AllReadyH.cons rfl (fun K hK => ?_) AllReadyH.nil
   have t0 := ent_cell EA.out 0 _ rfl
   have t1 := ent_cell EA.out 1 _ rfl
   have t2 := ent_cell EA.out 2 _ rfl
   have tf := ent_free EA.out
   go_simp
   clear t0 t1 t2 tf
   have HKu : Hid (∀ b, b ≠ w.heap.size → (((wz.setCell ⟨w.heap.size, 0, none⟩ (.int .i64 ia)).setCell ⟨w.heap.size, 1, none⟩ (.string ta)).setCell ⟨w.heap.size, 2, none⟩ (.slice pa na oa)).heap[b]? = wz.heap[b]?) := Lib.hid (fun b hb => ((Below.heap_setCell _ ⟨w.heap.size, 2, none⟩ _ b hb).trans (Below.heap_setCell _ ⟨w.heap.size, 1, none⟩ _ b hb)).trans (Below.heap_setCell _ ⟨w.heap.size, 0, none⟩ _ b hb))
   have HZu : Hid ((((wz.setCell ⟨w.heap.size, 0, none⟩ (.int .i64 ia)).setCell ⟨w.heap.size, 1, none⟩ (.string ta)).setCell ⟨w.heap.size, 2, none⟩ (.slice pa na oa)).heap.size = wz.heap.size) := Lib.hid (by simp)
   have EAu := Lib.hid (ent_set3 EA.out (.int .i64 ia) (.string ta) (.slice pa na oa))
   have HBu := Lib.hid (below_set3 HB.out w.heap.size (Nat.le_refl _) (.int .i64 ia) (.string ta) (.slice pa na oa))
   refine hK.out _ _ ⟨HBu.out, by rw [HZu.out]; exact HS.out⟩ (fun hHeld => ?_)
   clear hK K
   generalize (((wz.setCell ⟨w.heap.size, 0, none⟩ (.int .i64 ia)).setCell ⟨w.heap.size, 1, none⟩ (.string ta)).setCell ⟨w.heap.size, 2, none⟩ (.slice pa na oa)) = wu at HKu HZu EAu HBu hHeld ⊢
   have EBu := Lib.hid ((HKu.out (w.heap.size + 1) (by omega)).trans EB.out)
   refine wpAnyH_ready (rs := [7]) (by kernel_rfl) (by simp) ?_
   refine AllReadyH.cons rfl (fun K hK => ?_) AllReadyH.nil
   have t0 := ent_cell EBu.out 0 _ rfl
   have t1 := ent_cell EBu.out 1 _ rfl
   have t2 := ent_cell EBu.out 2 _ rfl
   have tf := ent_free EBu.out
   go_simp
   clear t0 t1 t2 tf
   have HKv : Hid (∀ b, b ≠ w.heap.size + 1 → (((wu.setCell ⟨w.heap.size + 1, 0, none⟩ (.int .i64 ib)).setCell ⟨w.heap.size + 1, 1, none⟩ (.string tb)).setCell ⟨w.heap.size + 1, 2, none⟩ (.slice pb nb ob)).heap[b]? = wu.heap[b]?) := Lib.hid (fun b hb => ((Below.heap_setCell _ ⟨w.heap.size + 1, 2, none⟩ _ b hb).trans (Below.heap_setCell _ ⟨w.heap.size + 1, 1, none⟩ _ b hb)).trans (Below.heap_setCell _ ⟨w.heap.size + 1, 0, none⟩ _ b hb))
   have HZv : Hid ((((wu.setCell ⟨w.heap.size + 1, 0, none⟩ (.int .i64 ib)).setCell ⟨w.heap.size + 1, 1, none⟩ (.string tb)).setCell ⟨w.heap.size + 1, 2, none⟩ (.slice pb nb ob)).heap.size = wu.heap.size) := Lib.hid (by simp)
   have EBv := Lib.hid (ent_set3 EBu.out (.int .i64 ib) (.string tb) (.slice pb nb ob))
   have HBv := Lib.hid (below_set3 HBu.out (w.heap.size + 1) (by omega) (.int .i64 ib) (.string tb) (.slice pb nb ob))
   refine hK.out _ _ ⟨HBv.out, by rw [HZv.out, HZu.out]; exact HS.out⟩ (fun hHeld => ?_)
   clear hK K
   refine wpAnyH_done (by kernel_rfl) ?_ _
   generalize (((wu.setCell ⟨w.heap.size + 1, 0, none⟩ (.int .i64 ib)).setCell ⟨w.heap.size + 1, 1, none⟩ (.string tb)).setCell ⟨w.heap.size + 1, 2, none⟩ (.slice pb nb ob)) = wv at HKv HZv EBv HBv ⊢
   have EAv := Lib.hid ((HKv.out w.heap.size (by omega)).trans EAu.out)
   have HSv := Lib.hid (show w.heap.size + 2 ≤ wv.heap.size by rw [HZv.out, HZu.out]; exact HS.out)
   have HAv := Lib.hid ((HHA.out.same (w' := wv) fun b hb => (HKv.out b (by omega)).trans (HKu.out b (by omega))).wide (Nat.le_refl _) (Nat.le_refl _) (show _ ≤ wv.heap.size by rw [HZv.out, HZu.out]; exact HZY.out))
   have HTv := Lib.hid ((HHB.out.same (w' := wv) fun b hb => (HKv.out b (by omega)).trans (HKu.out b (by omega))).wide (Nat.le_refl _) (Nat.le_refl _) (show _ ≤ wv.heap.size by rw [HZv.out, HZu.out]; exact Nat.le_refl _))
   clear HKu HZu EAu HBu EBu HKv HZv EA EB HB HS HHA HHB HZY hHeld
   obtain ⟨n, haa⟩ | ⟨nm, xs, haa⟩ : (∃ n, aa = .v n) ∨ ∃ nm xs, aa = .a nm xs := by
    cases aa with
    | v n => exact .inl ⟨n, rfl⟩
    | a nm xs => exact .inr ⟨nm, xs, rfl⟩
   · subst haa
     obtain ⟨s9, q9, j9, c9, hva⟩ := tyP_v.1 HAv.out.now
     have hia : ia = (n : Int) := by injection hva with hva; simp at hva; exact hva.1
     subst hia
     clear hva
     have d1 : decide ((n : Int) < 0) = false := by simp
     have d2 : decide ((0 : Int) ≤ (n : Int)) = true := by simp
     have t0 := ent_cell EAv.out 0 _ rfl
     have t1 := ent_cell EAv.out 1 _ rfl
     have t2 := ent_cell EAv.out 2 _ rfl
     have u0 := ent_cell EBv.out 0 _ rfl
     have u1 := ent_cell EBv.out 1 _ rfl
     have u2 := ent_cell EBv.out 2 _ rfl
     by_cases hib : ib = (n : Int)
     · have hbb : bb = .v n := by
        rcases bb with m | ⟨nm, ys⟩
        · obtain ⟨s8, q8, j8, c8, hvb⟩ := tyP_v.1 HTv.out.now
          have : ib = (m : Int) := by injection hvb with hvb; simp at hvb; exact hvb.1
          have : m = n := by omega
          rw [this]
        · obtain ⟨kt, av, hkt, hvb, _⟩ := tyP_a.1 HTv.out.now
          have : ib = kt := by injection hvb with hvb; simp at hvb; exact hvb.1
          omega
       subst hib
       go_wp2_with fail
       go_ret2
       have hr : r = some L := by
        rcases Ux.refU_var HR0.out HEA.out.symm with ⟨_, h⟩ | ⟨h, _⟩
        · exact h
        · exact absurd (HEB.out.symm.trans hbb) h
       subst hr
       exact ⟨_, rfl, HBv.out, fun L' e => by injection e with e; rw [← e]; exact pairs_below HL.out HBv.out⟩
     · have d3 : (ib == (n : Int)) = false := by simp [hib]
       have HR : Hid (r = Ux.headU L n bb) := Lib.hid (by
        rcases Ux.refU_var HR0.out HEA.out.symm with ⟨h, _⟩ | ⟨_, h⟩
        · exfalso
          have hbb : bb = .v n := HEB.out.trans h
          rw [hbb] at HTv
          obtain ⟨s8, q8, j8, c8, hvb⟩ := tyP_v.1 HTv.out.now
          exact hib (by injection hvb with hvb; simp at hvb; exact hvb.1)
        · rw [HEB.out]; exact h)
       have EAs := EAv; have EBs := EBv; have HBs := HBv; have HSs := HSv; have HTs := HTv
       clear EAv EBv HBv HSv HTv HAv
       obtain ⟨wS, hwS⟩ : ∃ wS, wS = wv := ⟨_, rfl⟩
       subst hwS
       go_wp2_with fail
       refine (refHas_ty bb _ n wS HTs.out.now).mono ?_
       rintro e wn ⟨rfl, hbn⟩
       have HBs2 := Lib.hid (HBs.out.trans (hbn.mono HBs.out.size))
       have EAn := Lib.hid (ent_below EAs.out hbn); have EBn := Lib.hid (ent_below EBs.out hbn)
       have HTn := Lib.hid (HTs.out.same (w' := wn) fun b hb => hbn.block b (by have := HSs.out; omega))
       have HSn := Lib.hid (show w.heap.size + 2 ≤ wn.heap.size by have := HSs.out; have := hbn.size; omega)
       clear hbn HBs EAs EBs HTs HSs d1 d2 d3
       clear t0 t1 t2 u0 u1 u2
       by_cases hc : Ux.hasT bb n = true
       · rw [hc]
         go_wp2_with fail
         go_ret2
         have hr := HR.out
         rw [Ux.headU_none hc] at hr
         subst hr
         exact ⟨_, rfl, HBs2.out, fun L' e => by cases e⟩
       have hcf : Ux.hasT bb n = false := by simpa using hc
       rw [hcf]
       have HR2 := Lib.hid (HR.out.trans (Ux.headU_some hc))
       clear HR hc hcf
       have HTH := Lib.hid (tyP_hang HTn.out.now 0 0)
       have HO0 : Hid (wn.ownsRow wn.heap.size 71 4 (.slice none 0 0) 0 (cellsOf [])) := Lib.hid (own_none _ _ _ _ (Nat.le_refl _))
       go_wp2_with fail
       go_loopw [8, 9] (fun ov i wr => ∃ (j : Nat) (vs : List Value), i = .int .i64 j ∧ j ≤ L.length ∧ Hid (vs.length = j ∧ Reps (KeptH PairP wn.heap.size wn.heap.size wr ov.ownBlock) vs ((L.take j).map fun p => (p.1, Ux.put n bb p.2)) ∧ ∀ z ∈ vs, z.cells.size = 4) ∧ Hid (wr.ownsRow wn.heap.size 71 4 ov j (cellsOf vs)) ∧ Hid (Below wn.heap.size wn wr)) (fun _ i _ => L.length - (intOf i).toNat)
       case atStart => exact ⟨0, [], rfl, Nat.zero_le _, Lib.hid ⟨rfl, trivial, fun _ h => by cases h⟩, HO0, Lib.hid (Below.refl _ _)⟩
       case round =>
        clear HO0
        obtain ⟨j, vs, rfl, hj, HR1, HO, HBN⟩ := hrel
        obtain ⟨pa1, ca1, rfl⟩ := own_slice HO.out
        have hll := HLL.out
        by_cases hlt : j < L.length
        · obtain ⟨x, hx1⟩ : ∃ x, L[j]? = some x := ⟨_, List.getElem?_eq_getElem hlt⟩
          have HTK : Hid ((L.take (j + 1)).map (fun p => (p.1, Ux.put n bb p.2)) = (L.take j).map (fun p => (p.1, Ux.put n bb p.2)) ++ [(x.1, Ux.put n bb x.2)]) := Lib.hid (by rw [List.take_add_one, hx1]; simp)
          have HSX : Hid (x.2.sz ≤ 50000000000) := Lib.hid (by have := HEN.out x (List.mem_of_getElem? hx1); omega)
          have HBW := Lib.hid (HBs2.out.trans (HBN.out.mono HBs2.out.size))
          rcases pairs_below HL.out HBW.out with ⟨h0, _⟩ | ⟨g, of, c', hv, g1, g2, g3⟩
          · rw [h0] at hlt; simp at hlt
          injection hv with hq1 _ hq2
          subst hq1; subst hq2
          obtain ⟨z, ⟨e0, e1, zq, zn, zc, rfl, hty⟩, _, hcell⟩ := g3 j x hx1
          have HTY := Lib.hid (show Hang TyP wr.heap.size 0 0 wr.drew (.agg #[.int .i64 e0, .string e1, .slice zq zn zc]) x.2 from (tyP_hang hty 0 0).same fun b hb => rfl)
          have HTH := Lib.hid (HTH.out.same (w' := wr.drew) fun b hb => HBN.out.drew.block b (by omega))
          have hglt : g < wn.heap.size := by have h1 := World.block_lt_of_cell? w _ (pcell HL.out hx1); have h2 := HSn.out; dsimp only at h1; omega
          have HCL := Lib.hid (fun (w' : World) (h : Below wn.heap.size wr w') =>
           have up : ∀ j' z', (Value.agg #[.int .i64 x.1, .int .i64 e0, .string e1, .slice zq zn zc]).cells[j']? = some z' → w'.cell? ⟨g, of + j * 4 + j', none⟩ = some z' := fun j' z' hz' => (h.cell (p := ⟨g, of + j * 4 + j', none⟩) hglt).trans (hcell j' z' hz')
           (show w'.cell? ⟨g, of + j * 4, none⟩ = some (.int .i64 x.1) ∧ w'.cell? ⟨g, of + j * 4 + 1, none⟩ = some (.int .i64 e0) ∧ w'.cell? ⟨g, of + j * 4 + 2, none⟩ = some (.string e1) ∧ w'.cell? ⟨g, of + j * 4 + 3, none⟩ = some (.slice zq zn zc) from ⟨up 0 _ rfl, up 1 _ rfl, up 2 _ rfl, up 3 _ rfl⟩))
          have hk1 : (j : Int) < (L.length : Int) := by omega
          have hk2 : (L.length : Int) ≤ (cp : Int) := by omega
          have hk3 := g2
          have hk4 : (j : Int) ≤ 6 := by omega
          clear g1 g2 g3 hcell hx1 hty hglt
          go_upto_region 13 with fail
          refine wp_region_held_drew (S := fun (u : World) => Below wn.heap.size wr u) (by kernel_rfl) ((Below.refl _ _).drew) (fun hHeld => ?_)
          refine wpAnyH_take (i := 0) (v := .slice pa1 j ca1) rfl (by kernel_rfl) (by kernel_rfl) (by kernel_rfl) (fun _ _ _ h => h) (Or.inl ⟨by rfl, fun w' hSw => by go_simp⟩) hHeld ?_
          refine wpAnyH_take (i := 1) (v := .slice (some ⟨g, of, none⟩) L.length cp) rfl (by kernel_rfl) (by kernel_rfl) (by kernel_rfl) (fun _ _ _ h => h) (Or.inl ⟨by rfl, fun w' hSw => by go_simp⟩) hHeld ?_
          refine wpAnyH_take (i := 2) (v := .int .i64 j) rfl (by kernel_rfl) (by kernel_rfl) (by kernel_rfl) (fun _ _ _ h => h) (Or.inl ⟨by rfl, fun w' hSw => by go_simp⟩) hHeld ?_
          refine wpAnyH_take (i := 3) (v := .pointer (some ⟨g, of + j * 4, none⟩)) rfl (by kernel_rfl) (by kernel_rfl) (by kernel_rfl) (fun _ _ _ h => h) (Or.inl ⟨by rfl, fun w' hSw => by go_simp⟩) hHeld ?_
          refine wpAnyH_take (i := 4) (v := .pointer (some ⟨g, of + j * 4, none⟩)) rfl (by kernel_rfl) (by kernel_rfl) (by kernel_rfl) (fun _ _ _ h => h) (Or.inl ⟨by rfl, fun w' hSw => by go_simp⟩) hHeld ?_
          refine wpAnyH_take (i := 5) (v := .int .i64 x.1) rfl (by kernel_rfl) (by kernel_rfl) (by kernel_rfl) (fun _ _ _ h => h) (Or.inl ⟨by rfl, fun w' hSw => by obtain ⟨x0, x1, x2, x3⟩ := HCL.out w' hSw; go_simp⟩) hHeld ?_
          refine wpAnyH_take (i := 6) (v := .slice (some ⟨g, of, none⟩) L.length cp) rfl (by kernel_rfl) (by kernel_rfl) (by kernel_rfl) (fun _ _ _ h => h) (Or.inl ⟨by rfl, fun w' hSw => by go_simp⟩) hHeld ?_
          refine wpAnyH_take (i := 7) (v := .int .i64 j) rfl (by kernel_rfl) (by kernel_rfl) (by kernel_rfl) (fun _ _ _ h => h) (Or.inl ⟨by rfl, fun w' hSw => by go_simp⟩) hHeld ?_
          refine wpAnyH_take (i := 8) (v := .pointer (some ⟨g, of + j * 4, none⟩)) rfl (by kernel_rfl) (by kernel_rfl) (by kernel_rfl) (fun _ _ _ h => h) (Or.inl ⟨by rfl, fun w' hSw => by go_simp⟩) hHeld ?_
          refine wpAnyH_take (i := 9) (v := .pointer (some ⟨g, of + j * 4 + 1, none⟩)) rfl (by kernel_rfl) (by kernel_rfl) (by kernel_rfl) (fun _ _ _ h => h) (Or.inl ⟨by rfl, fun w' hSw => by go_simp⟩) hHeld ?_
          refine wpAnyH_take (i := 10) (v := .agg #[.int .i64 e0, .string e1, .slice zq zn zc]) rfl (by kernel_rfl) (by kernel_rfl) (by kernel_rfl) (fun _ _ _ h => h) (Or.inl ⟨by rfl, fun w' hSw => by obtain ⟨x0, x1, x2, x3⟩ := HCL.out w' hSw; go_simp⟩) hHeld ?_
          refine wpAnyH_take (i := 11) (v := .pointer (some ⟨w.heap.size, 0, none⟩)) rfl (by kernel_rfl) (by kernel_rfl) (by kernel_rfl) (fun _ _ _ h => h) (Or.inl ⟨by rfl, fun w' hSw => by go_simp⟩) hHeld ?_
          refine wpAnyH_take (i := 12) (v := .int .i64 n) rfl (by kernel_rfl) (by kernel_rfl) (by kernel_rfl) (fun _ _ _ h => h) (Or.inl ⟨by rfl, fun w' hSw => by have h0 := ent_cell (ent_below EAn.out (HBN.out.trans hSw)) 0 _ rfl; go_simp⟩) hHeld ?_
          refine wpAnyH_take (i := 13) (v := .agg #[.int .i64 ib, .string tb, .slice pb nb ob]) rfl (by kernel_rfl) (by kernel_rfl) (by kernel_rfl) (fun _ _ _ h => h) (Or.inl ⟨by rfl, fun w' hSw => by have h0 := ent_cell (ent_below EBn.out (HBN.out.trans hSw)) 0 _ rfl; have h1 := ent_cell (ent_below EBn.out (HBN.out.trans hSw)) 1 _ rfl; have h2 := ent_cell (ent_below EBn.out (HBN.out.trans hSw)) 2 _ rfl; go_simp⟩) hHeld ?_
          try simp only [Act.put, List.getElem_toArray, List.getElem_cons_succ, List.getElem_cons_zero, List.setIfInBounds_toArray, List.set_cons_zero, List.set_cons_succ]
          refine wpAnyH_ready (rs := [14]) (by kernel_rfl) (by simp) ?_
          refine AllReadyH.cons rfl (fun K hK => ?_) AllReadyH.nil
          go_simp
          refine (put_any _ _ _ bb n wn.heap.size wr.drew HBN.out.size HTY.out.now HTH.out HSX.out).mono ?_
          rintro e w5 ⟨rr, rfl, hb5, hh5⟩
          replace hb5 := undrew hb5
          obtain ⟨b0, b1, rq, rn, rc, rfl⟩ := tyP_sh hh5.now
          have HB5 := Lib.hid hb5
          have HH5 : Hid (Hang TyP wn.heap.size wr.heap.size w5.heap.size w5 (.agg #[.int .i64 b0, .string b1, .slice rq rn rc]) (Ux.put n bb x.2)) := Lib.hid hh5
          have HO5 := Lib.hid (own_kept HO.out hb5)
          clear hb5 hh5
          refine hK.out _ _ (HB5.out.mono HBN.out.size) (fun hHeld => ?_)
          clear hK K
          refine wpAnyH_ready (rs := [15]) (by kernel_rfl) (by simp) ?_
          refine AllReadyH.cons rfl (fun K hK => ?_) AllReadyH.nil
          go_simp
          refine hK.out _ _ (HB5.out.mono HBN.out.size) (fun hHeld => ?_)
          clear hK K
          refine wpAnyH_ready (rs := [16]) (by kernel_rfl) (by simp) ?_
          refine AllReadyH.cons rfl (fun K hK => ?_) AllReadyH.nil
          go_simp
          refine hK.out _ _ ((HB5.out.mono HBN.out.size).alloc (Nat.le_trans HBN.out.size HB5.out.size) _) (fun hHeld => ?_)
          clear hK K
          refine wpAnyH_ready (rs := [17]) (by kernel_rfl) (by simp) ?_
          refine AllReadyH.cons rfl (fun K hK => ?_) AllReadyH.nil
          refine step_append_loc rfl (.tmp 48) (.tmp 64) 27 rfl wn.heap.size 71 i0 (.agg #[.int .i64 0, .int .i64 0, .string ⟨#[]⟩, .slice none 0 0]) 4 56 Tryd.underlying27 I0.out I00.out I01.out I02.out rfl (by decide) _ j _ rfl (HO5.out.alloc _) ⟨w5.heap.size, 0, none⟩ 1 1 [.int .i64 x.1, .int .i64 b0, .string b1, .slice rq rn rc] rfl (by decide) rfl ?c1 ?c2 ?c3 ?c4 ?c5 ?_
          case c1 => exact fun jj u h => four_cells w5 _ _ _ _ _ jj u h
          case c2 => intro u hu; simp only [List.mem_cons, List.not_mem_nil, or_false] at hu; rcases hu with rfl | rfl | rfl | rfl <;> rfl
          case c3 => unfold maxLen; have := HLL.out; omega
          case c4 => have := HLL.out; omega
          case c5 => have h1 := HBN.out.size; have h2 := HB5.out.size; simp; omega
          intro v6 w6 hown hgr hloc
          obtain ⟨p6, c6, rfl⟩ := own_slice hown
          have hob : ∀ kk, (Value.slice pa1 j ca1).ownBlock = some kk → wn.heap.size ≤ kk := fun kk hkk => (HO5.out.lt kk hkk).1
          have HS56 : Hid (w5.heap.size ≤ w6.heap.size) := Lib.hid (by have := hgr.size; simp at this; omega)
          have HK6 : Hid (∀ b, b < w5.heap.size → (Value.slice pa1 j ca1).ownBlock ≠ some b → w6.heap[b]? = w5.heap[b]?) := Lib.hid (fun b hb hne => (hgr.block b (by simp; omega) (fun e => hne e.symm)).trans (Below.heap_alloc w5 _ b hb))
          have HOB := Lib.hid hob
          have HLOC : Hid ((Value.slice p6 (j + 1) c6).ownBlock = (Value.slice pa1 j ca1).ownBlock ∨ ∀ g, (Value.slice p6 (j + 1) c6).ownBlock = some g → w5.heap.size ≤ g) := Lib.hid (hloc.imp id fun h g hg => by have := h g hg; simp at this; omega)
          have HS6 : Hid (Below wn.heap.size wr w6) := Lib.hid (((HB5.out.mono (B' := wn.heap.size) HBN.out.size).alloc (Nat.le_trans HBN.out.size HB5.out.size) _).grown hgr (by have h1 := HBN.out.size; have h2 := HB5.out.size; simp; omega) (fun kk hkk => hob kk hkk))
          rw [← cells_four] at hown
          have HO6 := Lib.hid hown
          clear hown hgr hloc hob
          refine hK.out _ _ HS6.out (fun hHeld => ?_)
          clear hK K
          refine wpAnyH_take (i := 18) (v := .slice p6 (j + 1) c6) rfl (by kernel_rfl) (by kernel_rfl) (by kernel_rfl) (fun _ _ _ h => h) (Or.inl ⟨by rfl, fun w' hSw => by go_simp⟩) hHeld ?_
          simp only [Act.put, List.getElem_toArray, List.getElem_cons_succ, List.getElem_cons_zero, List.setIfInBounds_toArray, List.set_cons_zero, List.set_cons_succ]
          refine wpAnyH_done (by kernel_rfl) ?_ _
          clear hHeld
          have HR7 : Hid ((vs ++ [Value.agg #[.int .i64 x.1, .int .i64 b0, .string b1, .slice rq rn rc]]).length = j + 1 ∧ Reps (KeptH PairP wn.heap.size wn.heap.size w6 (Value.slice p6 (j + 1) c6).ownBlock) (vs ++ [Value.agg #[.int .i64 x.1, .int .i64 b0, .string b1, .slice rq rn rc]]) ((L.take (j + 1)).map fun p => (p.1, Ux.put n bb p.2)) ∧ ∀ z ∈ vs ++ [Value.agg #[.int .i64 x.1, .int .i64 b0, .string b1, .slice rq rn rc]], z.cells.size = 4) := Lib.hid (by
           obtain ⟨f1, f2, f3⟩ := HR1.out
           refine ⟨by simp [f1], ?_, fun z hz => (List.mem_append.1 hz).elim (f3 z) (fun h => by rw [List.mem_singleton.1 h]; rfl)⟩
           rw [HTK.out]
           have hs := HBN.out.size
           have hs5 := HB5.out.size
           refine Reps.snoc ?_ (f2.mono fun z y hzy => ?_)
           · refine KeptH.step (ob := (Value.slice pa1 j ca1).ownBlock) ⟨wr.heap.size, w5.heap.size, hs, Nat.le_refl _, fun g hg => .inl (HO.out.lt g hg).2, fun u hu => ⟨_, _, _, _, _, rfl, HH5.out u hu⟩⟩ HS56.out (by omega) (fun b h1 h2 h3 => HK6.out b h2 h3) HOB.out HLOC.out
           · refine KeptH.step (ob := (Value.slice pa1 j ca1).ownBlock) (hzy.step hs5 (by omega) (fun b _ h2 _ => HB5.out.block b h2) HOB.out (.inl rfl)) HS56.out (by omega) (fun b h1 h2 h3 => HK6.out b h2 h3) HOB.out HLOC.out)
          have HBN6 := Lib.hid (HBN.out.trans HS6.out)
          clear HR1 HO HB5 HH5 HO5 HS56 HK6 HOB HLOC HS6 HBN HCL HTY HBW
          go_wp2_with fail
          go_roundw
          case rel => exact ⟨j + 1, _, by go_num, by omega, HR7, HO6, HBN6⟩
          case measure => simp [intOf]; omega
        · obtain rfl : j = L.length := by omega
          have EAr := Lib.hid (ent_below EAn.out HBN.out); have EBr := Lib.hid (ent_below EBn.out HBN.out)
          have t0 := ent_cell EAr.out 0 _ rfl
          have u0 := ent_cell EBr.out 0 _ rfl
          have u1 := ent_cell EBr.out 1 _ rfl
          have u2 := ent_cell EBr.out 2 _ rfl
          have hnn : L.length ≤ 100000000000 := by omega
          have hsz : wn.heap.size ≤ wr.heap.size := HBN.out.size
          go_wp2_with (at_builtin; refine wpList_append_new eltPair wr rfl (.tmp 66) (.tmp 71) rfl wn.heap.size (.slice pa1 L.length ca1) L.length _ rfl HO.out #[.int .i64 n, .int .i64 ib, .string tb, .slice pb nb ob] 71 rfl rfl (by intro u hu; simp only [List.mem_cons, List.not_mem_nil, or_false] at hu; rcases hu with rfl | rfl | rfl | rfl <;> rfl) hnn hsz ?_)
          intro v6 w6 hown hch hloc
          obtain ⟨p6, c6, rfl⟩ := own_slice hown
          rw [show cellsOf vs ++ (#[.int .i64 (n : Int), .int .i64 ib, .string tb, .slice pb nb ob] : Array Value).toList = cellsOf (vs ++ [.agg #[.int .i64 (n : Int), .int .i64 ib, .string tb, .slice pb nb ob]]) from (cells_four vs _ _ _ _).symm] at hown
          have HW6 := Lib.hid hown; have HC6 := Lib.hid hch; have HL6 := Lib.hid hloc
          clear hown hch hloc hnn hsz t0 u0 u1 u2
          go_wp2_with fail
          go_ret2
          have hob : ∀ g, (Value.slice pa1 L.length ca1).ownBlock = some g → wn.heap.size ≤ g := fun g hg => (HO.out.lt g hg).1
          have hr := HR2.out
          subst hr
          have hb6 : Below wn.heap.size wn w6 := HBN.out.trans (HC6.out.below HBN.out.size fun k hk => hob k hk)
          refine ⟨_, rfl, HBs2.out.trans (hb6.mono HBs2.out.size), fun L' e => ?_⟩
          injection e with e
          subst e
          obtain ⟨f1, f2, f3⟩ := HR1.out
          rw [List.take_length] at f2
          have hs := HBN.out.size
          have hs6 := HC6.out.size
          refine rowH (base := wn.heap.size) HW6.out (by simp [Ux.bind]) ?_ (fun z hz => (List.mem_append.1 hz).elim (f3 z) (fun h => by rw [List.mem_singleton.1 h]; rfl)) (fun _ _ => rfl)
          refine Reps.snoc ?_ (f2.mono fun z y hzy => hzy.step hs6 hs (fun b _ h2 h3 => HC6.out.block b h2 h3) hob HL6.out)
          refine ⟨wn.heap.size, wn.heap.size, Nat.le_refl _, by omega, fun g hg => .inr ?_, fun u hu => ⟨_, _, _, _, _, rfl, HTH.out u fun b hb => (hu b (by omega)).trans (hb6.block b (by omega))⟩⟩
          rcases HL6.out with e | e
          · exact hob g (e ▸ hg)
          · have := e g hg; omega
   · have hsh := tyP_a.1 (show TyP wv (.agg #[.int .i64 ia, .string ta, .slice pa na oa]) (.a nm xs) by rw [← haa]; exact HAv.out.now)
     obtain ⟨kt, av, hkt, hva, hxa, _⟩ := hsh
     have hva2 : ia = kt ∧ ta = ⟨nm.toArray⟩ ∧ av = .slice pa na oa := by injection hva with hva; simp at hva; exact ⟨hva.1, hva.2.1, hva.2.2.symm⟩
     obtain ⟨rfl, hta2, rfl⟩ := hva2
     have HIA := Lib.hid hkt
     clear hva
     have d1 : decide (ia < 0) = true := by simp; exact hkt
     obtain ⟨n, hbb⟩ | ⟨nm', ys, hbb⟩ : (∃ n, bb = .v n) ∨ ∃ nm xs, bb = .a nm xs := by
      cases bb with
      | v n => exact .inl ⟨n, rfl⟩
      | a nm xs => exact .inr ⟨nm, xs, rfl⟩
     · obtain ⟨s9, q9, j9, c9, hvb⟩ := tyP_v.1 (show TyP wv (.agg #[.int .i64 ib, .string tb, .slice pb nb ob]) (.v n) by rw [← hbb]; exact HTv.out.now)
       have hib : ib = (n : Int) := by injection hvb with hvb; simp at hvb; exact hvb.1
       subst hib
       clear hvb hxa hta2
       have d2 : decide ((0 : Int) ≤ (n : Int)) = true := by simp
       have t0 := ent_cell EAv.out 0 _ rfl
       have t1 := ent_cell EAv.out 1 _ rfl
       have t2 := ent_cell EAv.out 2 _ rfl
       have u0 := ent_cell EBv.out 0 _ rfl
       have u1 := ent_cell EBv.out 1 _ rfl
       have u2 := ent_cell EBv.out 2 _ rfl
       have tf := ent_free EAv.out
       have uf := ent_free EBv.out
       have HR : Hid (r = Ux.headU L n aa) := Lib.hid (by rw [haa]; exact Ux.refU_swap HR0.out (HEA.out.symm.trans haa) (HEB.out.symm.trans hbb))
       go_upto_region 4 with fail
       clear tf uf t0 t1 t2 u0 u1 u2
       have HKs : Hid (∀ b, b ≠ w.heap.size → b ≠ w.heap.size + 1 → ((((((wv.setCell ⟨w.heap.size, 0, none⟩ (.int .i64 n)).setCell ⟨w.heap.size, 1, none⟩ (.string tb)).setCell ⟨w.heap.size, 2, none⟩ (.slice pb nb ob)).setCell ⟨w.heap.size + 1, 0, none⟩ (.int .i64 ia)).setCell ⟨w.heap.size + 1, 1, none⟩ (.string ta)).setCell ⟨w.heap.size + 1, 2, none⟩ (.slice pa na oa)).heap[b]? = wv.heap[b]?) := Lib.hid (fun b h1 h2 => (((((Below.heap_setCell _ ⟨w.heap.size + 1, 2, none⟩ _ b h2).trans (Below.heap_setCell _ ⟨w.heap.size + 1, 1, none⟩ _ b h2)).trans (Below.heap_setCell _ ⟨w.heap.size + 1, 0, none⟩ _ b h2)).trans (Below.heap_setCell _ ⟨w.heap.size, 2, none⟩ _ b h1)).trans (Below.heap_setCell _ ⟨w.heap.size, 1, none⟩ _ b h1)).trans (Below.heap_setCell _ ⟨w.heap.size, 0, none⟩ _ b h1))
       have HZs : Hid (((((((wv.setCell ⟨w.heap.size, 0, none⟩ (.int .i64 n)).setCell ⟨w.heap.size, 1, none⟩ (.string tb)).setCell ⟨w.heap.size, 2, none⟩ (.slice pb nb ob)).setCell ⟨w.heap.size + 1, 0, none⟩ (.int .i64 ia)).setCell ⟨w.heap.size + 1, 1, none⟩ (.string ta)).setCell ⟨w.heap.size + 1, 2, none⟩ (.slice pa na oa)).heap.size = wv.heap.size) := Lib.hid (by simp)
       have EAs := Lib.hid (ent_oth3 (ent_set3 EAv.out (.int .i64 n) (.string tb) (.slice pb nb ob)) (w.heap.size + 1) (by omega) (.int .i64 ia) (.string ta) (.slice pa na oa))
       have EBs := Lib.hid (ent_set3 (ent_oth3 EBv.out w.heap.size (by omega) (.int .i64 n) (.string tb) (.slice pb nb ob)) (.int .i64 ia) (.string ta) (.slice pa na oa))
       have HBs := Lib.hid (below_set3 (below_set3 HBv.out w.heap.size (Nat.le_refl _) (.int .i64 n) (.string tb) (.slice pb nb ob)) (w.heap.size + 1) (by omega) (.int .i64 ia) (.string ta) (.slice pa na oa))
       generalize ((((((wv.setCell ⟨w.heap.size, 0, none⟩ (.int .i64 n)).setCell ⟨w.heap.size, 1, none⟩ (.string tb)).setCell ⟨w.heap.size, 2, none⟩ (.slice pb nb ob)).setCell ⟨w.heap.size + 1, 0, none⟩ (.int .i64 ia)).setCell ⟨w.heap.size + 1, 1, none⟩ (.string ta)).setCell ⟨w.heap.size + 1, 2, none⟩ (.slice pa na oa)) = wS at HKs HZs EAs EBs HBs ⊢
       have HSs := Lib.hid (show w.heap.size + 2 ≤ wS.heap.size by rw [HZs.out]; exact HSv.out)
       have HTs := Lib.hid ((HAv.out.same (w' := wS) fun b hb => HKs.out b (by omega) (by omega)).wide (Nat.le_refl _) (Nat.le_refl _) (show _ ≤ wS.heap.size by rw [HZs.out]; exact Nat.le_refl _))
       clear HKs HZs EAv EBv HBv HSv HTv HAv d1
       have d1 : True := trivial
       have d3 : (ia == (n : Int)) = false := by have := HIA.out; simp; omega
       have t0 := ent_cell EAs.out 0 _ rfl
       have t1 := ent_cell EAs.out 1 _ rfl
       have t2 := ent_cell EAs.out 2 _ rfl
       have u0 := ent_cell EBs.out 0 _ rfl
       have u1 := ent_cell EBs.out 1 _ rfl
       have u2 := ent_cell EBs.out 2 _ rfl
       go_wp2_with fail
       refine (refHas_ty aa _ n wS HTs.out.now).mono ?_
       rintro e wn ⟨rfl, hbn⟩
       have HBs2 := Lib.hid (HBs.out.trans (hbn.mono HBs.out.size))
       have EAn := Lib.hid (ent_below EAs.out hbn); have EBn := Lib.hid (ent_below EBs.out hbn)
       have HTn := Lib.hid (HTs.out.same (w' := wn) fun b hb => hbn.block b (by have := HSs.out; omega))
       have HSn := Lib.hid (show w.heap.size + 2 ≤ wn.heap.size by have := HSs.out; have := hbn.size; omega)
       clear hbn HBs EAs EBs HTs HSs d1 d2 d3
       clear t0 t1 t2 u0 u1 u2
       by_cases hc : Ux.hasT aa n = true
       · rw [hc]
         go_wp2_with fail
         go_ret2
         have hr := HR.out
         rw [Ux.headU_none hc] at hr
         subst hr
         exact ⟨_, rfl, HBs2.out, fun L' e => by cases e⟩
       have hcf : Ux.hasT aa n = false := by simpa using hc
       rw [hcf]
       have HR2 := Lib.hid (HR.out.trans (Ux.headU_some hc))
       clear HR hc hcf
       have HTH := Lib.hid (tyP_hang HTn.out.now 0 0)
       have HO0 : Hid (wn.ownsRow wn.heap.size 71 4 (.slice none 0 0) 0 (cellsOf [])) := Lib.hid (own_none _ _ _ _ (Nat.le_refl _))
       go_wp2_with fail
       go_loopw [8, 9] (fun ov i wr => ∃ (j : Nat) (vs : List Value), i = .int .i64 j ∧ j ≤ L.length ∧ Hid (vs.length = j ∧ Reps (KeptH PairP wn.heap.size wn.heap.size wr ov.ownBlock) vs ((L.take j).map fun p => (p.1, Ux.put n aa p.2)) ∧ ∀ z ∈ vs, z.cells.size = 4) ∧ Hid (wr.ownsRow wn.heap.size 71 4 ov j (cellsOf vs)) ∧ Hid (Below wn.heap.size wn wr)) (fun _ i _ => L.length - (intOf i).toNat)
       case atStart => exact ⟨0, [], rfl, Nat.zero_le _, Lib.hid ⟨rfl, trivial, fun _ h => by cases h⟩, HO0, Lib.hid (Below.refl _ _)⟩
       case round =>
        clear HO0
        obtain ⟨j, vs, rfl, hj, HR1, HO, HBN⟩ := hrel
        obtain ⟨pa1, ca1, rfl⟩ := own_slice HO.out
        have hll := HLL.out
        by_cases hlt : j < L.length
        · obtain ⟨x, hx1⟩ : ∃ x, L[j]? = some x := ⟨_, List.getElem?_eq_getElem hlt⟩
          have HTK : Hid ((L.take (j + 1)).map (fun p => (p.1, Ux.put n aa p.2)) = (L.take j).map (fun p => (p.1, Ux.put n aa p.2)) ++ [(x.1, Ux.put n aa x.2)]) := Lib.hid (by rw [List.take_add_one, hx1]; simp)
          have HSX : Hid (x.2.sz ≤ 50000000000) := Lib.hid (by have := HEN.out x (List.mem_of_getElem? hx1); omega)
          have HBW := Lib.hid (HBs2.out.trans (HBN.out.mono HBs2.out.size))
          rcases pairs_below HL.out HBW.out with ⟨h0, _⟩ | ⟨g, of, c', hv, g1, g2, g3⟩
          · rw [h0] at hlt; simp at hlt
          injection hv with hq1 _ hq2
          subst hq1; subst hq2
          obtain ⟨z, ⟨e0, e1, zq, zn, zc, rfl, hty⟩, _, hcell⟩ := g3 j x hx1
          have HTY := Lib.hid (show Hang TyP wr.heap.size 0 0 wr.drew (.agg #[.int .i64 e0, .string e1, .slice zq zn zc]) x.2 from (tyP_hang hty 0 0).same fun b hb => rfl)
          have HTH := Lib.hid (HTH.out.same (w' := wr.drew) fun b hb => HBN.out.drew.block b (by omega))
          have hglt : g < wn.heap.size := by have h1 := World.block_lt_of_cell? w _ (pcell HL.out hx1); have h2 := HSn.out; dsimp only at h1; omega
          have HCL := Lib.hid (fun (w' : World) (h : Below wn.heap.size wr w') =>
           have up : ∀ j' z', (Value.agg #[.int .i64 x.1, .int .i64 e0, .string e1, .slice zq zn zc]).cells[j']? = some z' → w'.cell? ⟨g, of + j * 4 + j', none⟩ = some z' := fun j' z' hz' => (h.cell (p := ⟨g, of + j * 4 + j', none⟩) hglt).trans (hcell j' z' hz')
           (show w'.cell? ⟨g, of + j * 4, none⟩ = some (.int .i64 x.1) ∧ w'.cell? ⟨g, of + j * 4 + 1, none⟩ = some (.int .i64 e0) ∧ w'.cell? ⟨g, of + j * 4 + 2, none⟩ = some (.string e1) ∧ w'.cell? ⟨g, of + j * 4 + 3, none⟩ = some (.slice zq zn zc) from ⟨up 0 _ rfl, up 1 _ rfl, up 2 _ rfl, up 3 _ rfl⟩))
          have hk1 : (j : Int) < (L.length : Int) := by omega
          have hk2 : (L.length : Int) ≤ (cp : Int) := by omega
          have hk3 := g2
          have hk4 : (j : Int) ≤ 6 := by omega
          clear g1 g2 g3 hcell hx1 hty hglt
          go_upto_region 13 with fail
          refine wp_region_held_drew (S := fun (u : World) => Below wn.heap.size wr u) (by kernel_rfl) ((Below.refl _ _).drew) (fun hHeld => ?_)
          refine wpAnyH_take (i := 0) (v := .slice pa1 j ca1) rfl (by kernel_rfl) (by kernel_rfl) (by kernel_rfl) (fun _ _ _ h => h) (Or.inl ⟨by rfl, fun w' hSw => by go_simp⟩) hHeld ?_
          refine wpAnyH_take (i := 1) (v := .slice (some ⟨g, of, none⟩) L.length cp) rfl (by kernel_rfl) (by kernel_rfl) (by kernel_rfl) (fun _ _ _ h => h) (Or.inl ⟨by rfl, fun w' hSw => by go_simp⟩) hHeld ?_
          refine wpAnyH_take (i := 2) (v := .int .i64 j) rfl (by kernel_rfl) (by kernel_rfl) (by kernel_rfl) (fun _ _ _ h => h) (Or.inl ⟨by rfl, fun w' hSw => by go_simp⟩) hHeld ?_
          refine wpAnyH_take (i := 3) (v := .pointer (some ⟨g, of + j * 4, none⟩)) rfl (by kernel_rfl) (by kernel_rfl) (by kernel_rfl) (fun _ _ _ h => h) (Or.inl ⟨by rfl, fun w' hSw => by go_simp⟩) hHeld ?_
          refine wpAnyH_take (i := 4) (v := .pointer (some ⟨g, of + j * 4, none⟩)) rfl (by kernel_rfl) (by kernel_rfl) (by kernel_rfl) (fun _ _ _ h => h) (Or.inl ⟨by rfl, fun w' hSw => by go_simp⟩) hHeld ?_
          refine wpAnyH_take (i := 5) (v := .int .i64 x.1) rfl (by kernel_rfl) (by kernel_rfl) (by kernel_rfl) (fun _ _ _ h => h) (Or.inl ⟨by rfl, fun w' hSw => by obtain ⟨x0, x1, x2, x3⟩ := HCL.out w' hSw; go_simp⟩) hHeld ?_
          refine wpAnyH_take (i := 6) (v := .slice (some ⟨g, of, none⟩) L.length cp) rfl (by kernel_rfl) (by kernel_rfl) (by kernel_rfl) (fun _ _ _ h => h) (Or.inl ⟨by rfl, fun w' hSw => by go_simp⟩) hHeld ?_
          refine wpAnyH_take (i := 7) (v := .int .i64 j) rfl (by kernel_rfl) (by kernel_rfl) (by kernel_rfl) (fun _ _ _ h => h) (Or.inl ⟨by rfl, fun w' hSw => by go_simp⟩) hHeld ?_
          refine wpAnyH_take (i := 8) (v := .pointer (some ⟨g, of + j * 4, none⟩)) rfl (by kernel_rfl) (by kernel_rfl) (by kernel_rfl) (fun _ _ _ h => h) (Or.inl ⟨by rfl, fun w' hSw => by go_simp⟩) hHeld ?_
          refine wpAnyH_take (i := 9) (v := .pointer (some ⟨g, of + j * 4 + 1, none⟩)) rfl (by kernel_rfl) (by kernel_rfl) (by kernel_rfl) (fun _ _ _ h => h) (Or.inl ⟨by rfl, fun w' hSw => by go_simp⟩) hHeld ?_
          refine wpAnyH_take (i := 10) (v := .agg #[.int .i64 e0, .string e1, .slice zq zn zc]) rfl (by kernel_rfl) (by kernel_rfl) (by kernel_rfl) (fun _ _ _ h => h) (Or.inl ⟨by rfl, fun w' hSw => by obtain ⟨x0, x1, x2, x3⟩ := HCL.out w' hSw; go_simp⟩) hHeld ?_
          refine wpAnyH_take (i := 11) (v := .pointer (some ⟨w.heap.size, 0, none⟩)) rfl (by kernel_rfl) (by kernel_rfl) (by kernel_rfl) (fun _ _ _ h => h) (Or.inl ⟨by rfl, fun w' hSw => by go_simp⟩) hHeld ?_
          refine wpAnyH_take (i := 12) (v := .int .i64 n) rfl (by kernel_rfl) (by kernel_rfl) (by kernel_rfl) (fun _ _ _ h => h) (Or.inl ⟨by rfl, fun w' hSw => by have h0 := ent_cell (ent_below EAn.out (HBN.out.trans hSw)) 0 _ rfl; go_simp⟩) hHeld ?_
          refine wpAnyH_take (i := 13) (v := .agg #[.int .i64 ia, .string ta, .slice pa na oa]) rfl (by kernel_rfl) (by kernel_rfl) (by kernel_rfl) (fun _ _ _ h => h) (Or.inl ⟨by rfl, fun w' hSw => by have h0 := ent_cell (ent_below EBn.out (HBN.out.trans hSw)) 0 _ rfl; have h1 := ent_cell (ent_below EBn.out (HBN.out.trans hSw)) 1 _ rfl; have h2 := ent_cell (ent_below EBn.out (HBN.out.trans hSw)) 2 _ rfl; go_simp⟩) hHeld ?_
          try simp only [Act.put, List.getElem_toArray, List.getElem_cons_succ, List.getElem_cons_zero, List.setIfInBounds_toArray, List.set_cons_zero, List.set_cons_succ]
          refine wpAnyH_ready (rs := [14]) (by kernel_rfl) (by simp) ?_
          refine AllReadyH.cons rfl (fun K hK => ?_) AllReadyH.nil
          go_simp
          refine (put_any _ _ _ aa n wn.heap.size wr.drew HBN.out.size HTY.out.now HTH.out HSX.out).mono ?_
          rintro e w5 ⟨rr, rfl, hb5, hh5⟩
          replace hb5 := undrew hb5
          obtain ⟨b0, b1, rq, rn, rc, rfl⟩ := tyP_sh hh5.now
          have HB5 := Lib.hid hb5
          have HH5 : Hid (Hang TyP wn.heap.size wr.heap.size w5.heap.size w5 (.agg #[.int .i64 b0, .string b1, .slice rq rn rc]) (Ux.put n aa x.2)) := Lib.hid hh5
          have HO5 := Lib.hid (own_kept HO.out hb5)
          clear hb5 hh5
          refine hK.out _ _ (HB5.out.mono HBN.out.size) (fun hHeld => ?_)
          clear hK K
          refine wpAnyH_ready (rs := [15]) (by kernel_rfl) (by simp) ?_
          refine AllReadyH.cons rfl (fun K hK => ?_) AllReadyH.nil
          go_simp
          refine hK.out _ _ (HB5.out.mono HBN.out.size) (fun hHeld => ?_)
          clear hK K
          refine wpAnyH_ready (rs := [16]) (by kernel_rfl) (by simp) ?_
          refine AllReadyH.cons rfl (fun K hK => ?_) AllReadyH.nil
          go_simp
          refine hK.out _ _ ((HB5.out.mono HBN.out.size).alloc (Nat.le_trans HBN.out.size HB5.out.size) _) (fun hHeld => ?_)
          clear hK K
          refine wpAnyH_ready (rs := [17]) (by kernel_rfl) (by simp) ?_
          refine AllReadyH.cons rfl (fun K hK => ?_) AllReadyH.nil
          refine step_append_loc rfl (.tmp 48) (.tmp 64) 27 rfl wn.heap.size 71 i0 (.agg #[.int .i64 0, .int .i64 0, .string ⟨#[]⟩, .slice none 0 0]) 4 56 Tryd.underlying27 I0.out I00.out I01.out I02.out rfl (by decide) _ j _ rfl (HO5.out.alloc _) ⟨w5.heap.size, 0, none⟩ 1 1 [.int .i64 x.1, .int .i64 b0, .string b1, .slice rq rn rc] rfl (by decide) rfl ?c1 ?c2 ?c3 ?c4 ?c5 ?_
          case c1 => exact fun jj u h => four_cells w5 _ _ _ _ _ jj u h
          case c2 => intro u hu; simp only [List.mem_cons, List.not_mem_nil, or_false] at hu; rcases hu with rfl | rfl | rfl | rfl <;> rfl
          case c3 => unfold maxLen; have := HLL.out; omega
          case c4 => have := HLL.out; omega
          case c5 => have h1 := HBN.out.size; have h2 := HB5.out.size; simp; omega
          intro v6 w6 hown hgr hloc
          obtain ⟨p6, c6, rfl⟩ := own_slice hown
          have hob : ∀ kk, (Value.slice pa1 j ca1).ownBlock = some kk → wn.heap.size ≤ kk := fun kk hkk => (HO5.out.lt kk hkk).1
          have HS56 : Hid (w5.heap.size ≤ w6.heap.size) := Lib.hid (by have := hgr.size; simp at this; omega)
          have HK6 : Hid (∀ b, b < w5.heap.size → (Value.slice pa1 j ca1).ownBlock ≠ some b → w6.heap[b]? = w5.heap[b]?) := Lib.hid (fun b hb hne => (hgr.block b (by simp; omega) (fun e => hne e.symm)).trans (Below.heap_alloc w5 _ b hb))
          have HOB := Lib.hid hob
          have HLOC : Hid ((Value.slice p6 (j + 1) c6).ownBlock = (Value.slice pa1 j ca1).ownBlock ∨ ∀ g, (Value.slice p6 (j + 1) c6).ownBlock = some g → w5.heap.size ≤ g) := Lib.hid (hloc.imp id fun h g hg => by have := h g hg; simp at this; omega)
          have HS6 : Hid (Below wn.heap.size wr w6) := Lib.hid (((HB5.out.mono (B' := wn.heap.size) HBN.out.size).alloc (Nat.le_trans HBN.out.size HB5.out.size) _).grown hgr (by have h1 := HBN.out.size; have h2 := HB5.out.size; simp; omega) (fun kk hkk => hob kk hkk))
          rw [← cells_four] at hown
          have HO6 := Lib.hid hown
          clear hown hgr hloc hob
          refine hK.out _ _ HS6.out (fun hHeld => ?_)
          clear hK K
          refine wpAnyH_take (i := 18) (v := .slice p6 (j + 1) c6) rfl (by kernel_rfl) (by kernel_rfl) (by kernel_rfl) (fun _ _ _ h => h) (Or.inl ⟨by rfl, fun w' hSw => by go_simp⟩) hHeld ?_
          simp only [Act.put, List.getElem_toArray, List.getElem_cons_succ, List.getElem_cons_zero, List.setIfInBounds_toArray, List.set_cons_zero, List.set_cons_succ]
          refine wpAnyH_done (by kernel_rfl) ?_ _
          clear hHeld
          have HR7 : Hid ((vs ++ [Value.agg #[.int .i64 x.1, .int .i64 b0, .string b1, .slice rq rn rc]]).length = j + 1 ∧ Reps (KeptH PairP wn.heap.size wn.heap.size w6 (Value.slice p6 (j + 1) c6).ownBlock) (vs ++ [Value.agg #[.int .i64 x.1, .int .i64 b0, .string b1, .slice rq rn rc]]) ((L.take (j + 1)).map fun p => (p.1, Ux.put n aa p.2)) ∧ ∀ z ∈ vs ++ [Value.agg #[.int .i64 x.1, .int .i64 b0, .string b1, .slice rq rn rc]], z.cells.size = 4) := Lib.hid (by
           obtain ⟨f1, f2, f3⟩ := HR1.out
           refine ⟨by simp [f1], ?_, fun z hz => (List.mem_append.1 hz).elim (f3 z) (fun h => by rw [List.mem_singleton.1 h]; rfl)⟩
           rw [HTK.out]
           have hs := HBN.out.size
           have hs5 := HB5.out.size
           refine Reps.snoc ?_ (f2.mono fun z y hzy => ?_)
           · refine KeptH.step (ob := (Value.slice pa1 j ca1).ownBlock) ⟨wr.heap.size, w5.heap.size, hs, Nat.le_refl _, fun g hg => .inl (HO.out.lt g hg).2, fun u hu => ⟨_, _, _, _, _, rfl, HH5.out u hu⟩⟩ HS56.out (by omega) (fun b h1 h2 h3 => HK6.out b h2 h3) HOB.out HLOC.out
           · refine KeptH.step (ob := (Value.slice pa1 j ca1).ownBlock) (hzy.step hs5 (by omega) (fun b _ h2 _ => HB5.out.block b h2) HOB.out (.inl rfl)) HS56.out (by omega) (fun b h1 h2 h3 => HK6.out b h2 h3) HOB.out HLOC.out)
          have HBN6 := Lib.hid (HBN.out.trans HS6.out)
          clear HR1 HO HB5 HH5 HO5 HS56 HK6 HOB HLOC HS6 HBN HCL HTY HBW
          go_wp2_with fail
          go_roundw
          case rel => exact ⟨j + 1, _, by go_num, by omega, HR7, HO6, HBN6⟩
          case measure => simp [intOf]; omega
        · obtain rfl : j = L.length := by omega
          have EAr := Lib.hid (ent_below EAn.out HBN.out); have EBr := Lib.hid (ent_below EBn.out HBN.out)
          have t0 := ent_cell EAr.out 0 _ rfl
          have u0 := ent_cell EBr.out 0 _ rfl
          have u1 := ent_cell EBr.out 1 _ rfl
          have u2 := ent_cell EBr.out 2 _ rfl
          have hnn : L.length ≤ 100000000000 := by omega
          have hsz : wn.heap.size ≤ wr.heap.size := HBN.out.size
          go_wp2_with (at_builtin; refine wpList_append_new eltPair wr rfl (.tmp 66) (.tmp 71) rfl wn.heap.size (.slice pa1 L.length ca1) L.length _ rfl HO.out #[.int .i64 n, .int .i64 ia, .string ta, .slice pa na oa] 71 rfl rfl (by intro u hu; simp only [List.mem_cons, List.not_mem_nil, or_false] at hu; rcases hu with rfl | rfl | rfl | rfl <;> rfl) hnn hsz ?_)
          intro v6 w6 hown hch hloc
          obtain ⟨p6, c6, rfl⟩ := own_slice hown
          rw [show cellsOf vs ++ (#[.int .i64 (n : Int), .int .i64 ia, .string ta, .slice pa na oa] : Array Value).toList = cellsOf (vs ++ [.agg #[.int .i64 (n : Int), .int .i64 ia, .string ta, .slice pa na oa]]) from (cells_four vs _ _ _ _).symm] at hown
          have HW6 := Lib.hid hown; have HC6 := Lib.hid hch; have HL6 := Lib.hid hloc
          clear hown hch hloc hnn hsz t0 u0 u1 u2
          go_wp2_with fail
          go_ret2
          have hob : ∀ g, (Value.slice pa1 L.length ca1).ownBlock = some g → wn.heap.size ≤ g := fun g hg => (HO.out.lt g hg).1
          have hr := HR2.out
          subst hr
          have hb6 : Below wn.heap.size wn w6 := HBN.out.trans (HC6.out.below HBN.out.size fun k hk => hob k hk)
          refine ⟨_, rfl, HBs2.out.trans (hb6.mono HBs2.out.size), fun L' e => ?_⟩
          injection e with e
          subst e
          obtain ⟨f1, f2, f3⟩ := HR1.out
          rw [List.take_length] at f2
          have hs := HBN.out.size
          have hs6 := HC6.out.size
          refine rowH (base := wn.heap.size) HW6.out (by simp [Ux.bind]) ?_ (fun z hz => (List.mem_append.1 hz).elim (f3 z) (fun h => by rw [List.mem_singleton.1 h]; rfl)) (fun _ _ => rfl)
          refine Reps.snoc ?_ (f2.mono fun z y hzy => hzy.step hs6 hs (fun b _ h2 h3 => HC6.out.block b h2 h3) hob HL6.out)
          refine ⟨wn.heap.size, wn.heap.size, Nat.le_refl _, by omega, fun g hg => .inr ?_, fun u hu => ⟨_, _, _, _, _, rfl, HTH.out u fun b hb => (hu b (by omega)).trans (hb6.block b (by omega))⟩⟩
          rcases HL6.out with e | e
          · exact hob g (e ▸ hg)
          · have := e g hg; omega
     · obtain ⟨kt', av', hkt', hvb, hxb, _⟩ := tyP_a.1 (show TyP wv (.agg #[.int .i64 ib, .string tb, .slice pb nb ob]) (.a nm' ys) by rw [← hbb]; exact HTv.out.now)
       have hvb2 : ib = kt' ∧ tb = ⟨nm'.toArray⟩ ∧ av' = .slice pb nb ob := by injection hvb with hvb; simp at hvb; exact ⟨hvb.1, hvb.2.1, hvb.2.2.symm⟩
       obtain ⟨rfl, htb2, rfl⟩ := hvb2
       subst hta2
       subst htb2
       clear hvb
       have hla := hxa.lenIs
       have hlb := hxb.lenIs
       subst hla
       subst hlb
       have d2 : decide ((0 : Int) ≤ ib) = false := by simp; exact hkt'
       have d3 : decide ((0 : Int) ≤ ia) = false := by simp; exact hkt
       have t0 := ent_cell EAv.out 0 _ rfl
       have t1 := ent_cell EAv.out 1 _ rfl
       have t2 := ent_cell EAv.out 2 _ rfl
       have u0 := ent_cell EBv.out 0 _ rfl
       have u1 := ent_cell EBv.out 1 _ rfl
       have u2 := ent_cell EBv.out 2 _ rfl
       rcases Ux.refU_both HR0.out (HEA.out.symm.trans haa) (HEB.out.symm.trans hbb) with ⟨hne, hr⟩ | ⟨hnm, hle, hloop⟩
       · subst hr
         by_cases hnm : nm = nm'
         · subst hnm
           have hle : ¬ xs.length = ys.length := hne.resolve_left (fun h => h rfl)
           have d4 : ((xs.length : Int) == (ys.length : Int)) = false := by simp; omega
           clear hne
           go_wp2_with fail
           go_ret2
           exact ⟨_, rfl, HBv.out, fun L' e => by cases e⟩
         · have d4 : ((⟨nm.toArray⟩ : ByteArray) == ⟨nm'.toArray⟩) = false := names_differ hnm
           clear hne
           go_wp2_with fail
           go_ret2
           exact ⟨_, rfl, HBv.out, fun L' e => by cases e⟩
       · subst hnm
         rw [← hle] at EBv HTv ⊢
         clear u0 u1 u2
         have u0 := ent_cell EBv.out 0 _ rfl
         have u1 := ent_cell EBv.out 1 _ rfl
         have u2 := ent_cell EBv.out 2 _ rfl
         have HLOOP := Lib.hid hloop; have HLE := Lib.hid hle
         clear hloop hle hxa hxb hkt hkt'
         go_upto_region 17 with fail
         clear d1 d2 d3 t0 t1 t2 u0 u1 u2
         have HHA := Lib.hid (show ∀ u, Below wv.heap.size wv u → RowAt 3 (TyP u) u (.slice pa xs.length oa) xs from fun u hu => ty_row (nm := nm) (by rw [← haa]; exact tyP_below HAv.out.now hu))
         have HHB := Lib.hid (show ∀ u, Below wv.heap.size wv u → RowAt 3 (TyP u) u (.slice pb xs.length ob) ys from fun u hu => ty_row (nm := nm) (by rw [← hbb]; exact tyP_below HTv.out.now hu))
         have HPX := Lib.hid (show ∀ x ∈ xs, Ux.OfS S L x ∧ ∀ m ∈ x.vs, m ∈ V from fun x hx => ⟨HOA.out.parts hok.parts HI.out.solved HTR.out (HEA.out.symm.trans haa) x hx, fun m hm => Ux.sub_vs_in HI.out HAV.out m (by rw [← HEA.out, haa, Ux.vs_a]; exact List.mem_flatMap.2 ⟨x, hx, hm⟩)⟩)
         have HPY := Lib.hid (show ∀ y ∈ ys, Ux.OfS S L y ∧ ∀ m ∈ y.vs, m ∈ V from fun x hx => ⟨HOB'.out.parts hok.parts HI.out.solved HTR.out (HEB.out.symm.trans hbb) x hx, fun m hm => Ux.sub_vs_in HI.out HBV.out m (by rw [← HEB.out, hbb, Ux.vs_a]; exact List.mem_flatMap.2 ⟨x, hx, hm⟩)⟩)
         have HIN0 := Lib.hid (⟨HI.out, HTR.out, Ux.ExtL.refl HI.out.solved⟩ : Ux.Inv V L ∧ Ux.Tri S L ∧ Ux.ExtL L L)
         have HLV0 := Lib.hid (pairs_below HL.out HBv.out)
         go_wp2_with fail
         go_loopw [0, 6, 7, 10, 11, 12] (fun lvr _ _ i _ _ wr => ∃ (j : Nat) (M : Ux.Pairs), i = .int .i64 j ∧ j ≤ xs.length ∧ Hid (RowAt 4 (PairP wr) wr lvr M) ∧ Hid (Ux.Inv V M ∧ Ux.Tri S M ∧ Ux.ExtL L M) ∧ Hid (Ux.loopU (Ux.refU f) M (xs.drop j) (ys.drop j) = some r) ∧ Hid (Below wv.heap.size wv wr)) (fun _ _ _ i _ _ _ => xs.length - (intOf i).toNat)
         case atStart => exact ⟨0, L, rfl, Nat.zero_le _, HLV0, HIN0, HLOOP, Lib.hid (Below.refl _ _)⟩
         case round =>
          clear HLV0 HIN0 HLOOP
          obtain ⟨j, M, rfl, hj, HLV, HIN, HLOOP, HW⟩ := hrel
          obtain ⟨lq, lcc, rfl⟩ := HLV.out.len
          have EAr := Lib.hid (ent_below EAv.out HW.out); have EBr := Lib.hid (ent_below EBv.out HW.out)
          have t2 := ent_cell EAr.out 2 _ rfl
          by_cases hlt : j < xs.length
          · obtain ⟨x, hx⟩ : ∃ x, xs[j]? = some x := ⟨_, List.getElem?_eq_getElem hlt⟩
            obtain ⟨y, hy⟩ : ∃ y, ys[j]? = some y := ⟨_, List.getElem?_eq_getElem (by have := HLE.out; omega)⟩
            have hxd : xs.drop j = x :: xs.drop (j + 1) := by
             obtain ⟨h1, h2⟩ := List.getElem?_eq_some_iff.1 hx; rw [← h2]; exact List.drop_eq_getElem_cons h1
            have hyd : ys.drop j = y :: ys.drop (j + 1) := by
             obtain ⟨h1, h2⟩ := List.getElem?_eq_some_iff.1 hy; rw [← h2]; exact List.drop_eq_getElem_cons h1
            have hst : ∃ o, Ux.refU f M x y = some o ∧ (o = none → r = none) ∧ ∀ M', o = some M' → Ux.loopU (Ux.refU f) M' (xs.drop (j + 1)) (ys.drop (j + 1)) = some r := by
             have h := HLOOP.out
             rw [hxd, hyd] at h
             rcases Ux.loopU_step h with ⟨h1, h2⟩ | ⟨M', h1, h2⟩
             · exact ⟨none, h1, fun _ => h2, fun M' e => by cases e⟩
             · exact ⟨some M', h1, (fun e => by cases e), fun M2 e => by injection e with e; rw [← e]; exact h2⟩
            obtain ⟨o, ho, ho1, ho2⟩ := hst
            have hox := ((HPX.out x (List.mem_of_getElem? hx)).1).ext HIN.out.2.2
            have hoy := ((HPY.out y (List.mem_of_getElem? hy)).1).ext HIN.out.2.2
            obtain ⟨gx, ox, rfl, hc1, hc1', vx, sx, qx, nx, ccx, htx, hcx⟩ := ty_at (HHA.out wr HW.out) hx
            obtain ⟨gy, oy, rfl, hc2, hc2', vy, sy, qy, ny, ccy, hty, hcy⟩ := ty_at (HHB.out wr HW.out) hy
            have HCX := Lib.hid hcx; have HCY := Lib.hid hcy
            have HCALL := Lib.hid (HIH.out M x y o (.slice lq M.length lcc) _ _ wr.drew ho HIN.out.1 HIN.out.2.1 hox hoy (HPX.out x (List.mem_of_getElem? hx)).2 (HPY.out y (List.mem_of_getElem? hy)).2 (pairs_below HLV.out (Below.refl _ _).drew) (tyP_below htx (Below.refl _ _).drew) (tyP_below hty (Below.refl _ _).drew))
            have HO1 := Lib.hid ho1; have HO2 := Lib.hid ho2
            have HNXT := Lib.hid (show ∀ M', o = some M' → Ux.Inv V M' ∧ Ux.Tri S M' ∧ Ux.ExtL L M' from fun M' e => by
             subst e
             have h3 := Ux.refU_tri hok.parts f M x y HIN.out.1.solved HIN.out.2.1 hox hoy
             rw [ho] at h3
             exact ⟨Ux.refU_inv HIN.out.1 (HPX.out x (List.mem_of_getElem? hx)).2 (HPY.out y (List.mem_of_getElem? hy)).2 ho, h3.2.1, HIN.out.2.2.trans h3.2.2⟩)
            have EAd := Lib.hid (show wr.drew.heap[w.heap.size]? = some (.cells #[.int .i64 ia, .string ⟨nm.toArray⟩, .slice (some ⟨gx, ox, none⟩) xs.length oa] 30 (0, 0)) from EAr.out)
            have EBd := Lib.hid (show wr.drew.heap[w.heap.size + 1]? = some (.cells #[.int .i64 ib, .string ⟨nm.toArray⟩, .slice (some ⟨gy, oy, none⟩) xs.length ob] 30 (0, 0)) from EBr.out)
            have hk1 : (j : Int) < (xs.length : Int) := by omega
            have hk2 : (xs.length : Int) ≤ (oa : Int) := by omega
            have hk4 : (xs.length : Int) ≤ (ob : Int) := by have := HLE.out; omega
            clear ho ho1 ho2 hox hoy htx hty hcx hcy hxd hyd hx hy HLV HIN HLOOP
            go_upto_region 20 with fail
            refine wp_region_held_drew (S := fun (u : World) => u.heap[w.heap.size]? = some (.cells #[.int .i64 ia, .string ⟨nm.toArray⟩, .slice (some ⟨gx, ox, none⟩) xs.length oa] 30 (0, 0)) ∧ u.heap[w.heap.size + 1]? = some (.cells #[.int .i64 ib, .string ⟨nm.toArray⟩, .slice (some ⟨gy, oy, none⟩) xs.length ob] 30 (0, 0)) ∧ Below wr.heap.size wr u) (by kernel_rfl) (⟨EAd.out, EBd.out, (Below.refl _ _).drew⟩) (fun hHeld => ?_)
            refine wpAnyH_take (i := 0) (v := .slice lq M.length lcc) rfl (by kernel_rfl) (by kernel_rfl) (by kernel_rfl) (fun _ _ _ h => h) (Or.inl ⟨by rfl, fun w' hSw => by go_simp⟩) hHeld ?_
            refine wpAnyH_take (i := 1) (v := .pointer (some ⟨w.heap.size, 2, none⟩)) rfl (by kernel_rfl) (by kernel_rfl) (by kernel_rfl) (fun _ _ _ h => h) (Or.inl ⟨by rfl, fun w' hSw => by go_simp⟩) hHeld ?_
            refine wpAnyH_take (i := 2) (v := .slice (some ⟨gx, ox, none⟩) xs.length oa) rfl (by kernel_rfl) (by kernel_rfl) (by kernel_rfl) (fun _ _ _ h => h) (Or.inl ⟨by rfl, fun w' hSw => by have h2 := ent_cell hSw.1 2 _ rfl; go_simp⟩) hHeld ?_
            refine wpAnyH_take (i := 3) (v := .int .i64 j) rfl (by kernel_rfl) (by kernel_rfl) (by kernel_rfl) (fun _ _ _ h => h) (Or.inl ⟨by rfl, fun w' hSw => by go_simp⟩) hHeld ?_
            refine wpAnyH_take (i := 4) (v := .pointer (some ⟨gx, ox + j * 3, none⟩)) rfl (by kernel_rfl) (by kernel_rfl) (by kernel_rfl) (fun _ _ _ h => h) (Or.inl ⟨by rfl, fun w' hSw => by go_simp⟩) hHeld ?_
            refine wpAnyH_take (i := 5) (v := .agg #[.int .i64 vx, .string sx, .slice qx nx ccx]) rfl (by kernel_rfl) (by kernel_rfl) (by kernel_rfl) (fun _ _ _ h => h) (Or.inl ⟨by rfl, fun w' hSw => by obtain ⟨x0, x1, x2⟩ := HCX.out w' hSw.2.2; go_simp⟩) hHeld ?_
            refine wpAnyH_take (i := 6) (v := .pointer (some ⟨w.heap.size + 1, 2, none⟩)) rfl (by kernel_rfl) (by kernel_rfl) (by kernel_rfl) (fun _ _ _ h => h) (Or.inl ⟨by rfl, fun w' hSw => by go_simp⟩) hHeld ?_
            refine wpAnyH_take (i := 7) (v := .slice (some ⟨gy, oy, none⟩) xs.length ob) rfl (by kernel_rfl) (by kernel_rfl) (by kernel_rfl) (fun _ _ _ h => h) (Or.inl ⟨by rfl, fun w' hSw => by have h2 := ent_cell hSw.2.1 2 _ rfl; go_simp⟩) hHeld ?_
            refine wpAnyH_take (i := 8) (v := .int .i64 j) rfl (by kernel_rfl) (by kernel_rfl) (by kernel_rfl) (fun _ _ _ h => h) (Or.inl ⟨by rfl, fun w' hSw => by go_simp⟩) hHeld ?_
            refine wpAnyH_take (i := 9) (v := .pointer (some ⟨gy, oy + j * 3, none⟩)) rfl (by kernel_rfl) (by kernel_rfl) (by kernel_rfl) (fun _ _ _ h => h) (Or.inl ⟨by rfl, fun w' hSw => by go_simp⟩) hHeld ?_
            refine wpAnyH_take (i := 10) (v := .agg #[.int .i64 vy, .string sy, .slice qy ny ccy]) rfl (by kernel_rfl) (by kernel_rfl) (by kernel_rfl) (fun _ _ _ h => h) (Or.inl ⟨by rfl, fun w' hSw => by obtain ⟨x0, x1, x2⟩ := HCY.out w' hSw.2.2; go_simp⟩) hHeld ?_
            try simp only [Act.put, List.getElem_toArray, List.getElem_cons_succ, List.getElem_cons_zero, List.setIfInBounds_toArray, List.set_cons_zero, List.set_cons_succ]
            refine wpAnyH_ready (rs := [11]) (by kernel_rfl) (by simp) ?_
            refine AllReadyH.cons rfl (fun K hK => ?_) AllReadyH.nil
            go_simp
            refine HCALL.out.mono ?_
            rintro e w8 ⟨lv2, rfl, hb, hrow⟩
            replace hb := undrew hb
            have HROW := Lib.hid hrow
            have HW8 := Lib.hid (HW.out.trans (hb.mono HW.out.size))
            refine hK.out _ _ ⟨ent_below EAr.out hb, ent_below EBr.out hb, hb⟩ (fun hHeld => ?_)
            clear hb hrow
            clear hK K
            refine wpAnyH_take (i := 12) (v := .tuple #[lv2, .bool o.isSome]) rfl (by kernel_rfl) (by kernel_rfl) (by kernel_rfl) (fun _ _ _ h => h) (Or.inl ⟨by rfl, fun w' hSw => by go_simp⟩) hHeld ?_
            simp only [Act.put, List.getElem_toArray, List.getElem_cons_succ, List.getElem_cons_zero, List.setIfInBounds_toArray, List.set_cons_zero, List.set_cons_succ]
            refine wpAnyH_take (i := 13) (v := lv2) rfl (by kernel_rfl) (by kernel_rfl) (by kernel_rfl) (fun _ _ _ h => h) (Or.inl ⟨by rfl, fun w' hSw => by go_simp⟩) hHeld ?_
            simp only [Act.put, List.getElem_toArray, List.getElem_cons_succ, List.getElem_cons_zero, List.setIfInBounds_toArray, List.set_cons_zero, List.set_cons_succ]
            refine wpAnyH_take (i := 14) (v := .bool o.isSome) rfl (by kernel_rfl) (by kernel_rfl) (by kernel_rfl) (fun _ _ _ h => h) (Or.inl ⟨by rfl, fun w' hSw => by go_simp⟩) hHeld ?_
            simp only [Act.put, List.getElem_toArray, List.getElem_cons_succ, List.getElem_cons_zero, List.setIfInBounds_toArray, List.set_cons_zero, List.set_cons_succ]
            refine wpAnyH_take (i := 15) (v := lv2) rfl (by kernel_rfl) (by kernel_rfl) (by kernel_rfl) (fun _ _ _ h => h) (Or.inl ⟨by rfl, fun w' hSw => by go_simp⟩) hHeld ?_
            simp only [Act.put, List.getElem_toArray, List.getElem_cons_succ, List.getElem_cons_zero, List.setIfInBounds_toArray, List.set_cons_zero, List.set_cons_succ]
            refine wpAnyH_take (i := 16) (v := .bool o.isSome) rfl (by kernel_rfl) (by kernel_rfl) (by kernel_rfl) (fun _ _ _ h => h) (Or.inl ⟨by rfl, fun w' hSw => by go_simp⟩) hHeld ?_
            simp only [Act.put, List.getElem_toArray, List.getElem_cons_succ, List.getElem_cons_zero, List.setIfInBounds_toArray, List.set_cons_zero, List.set_cons_succ]
            refine wpAnyH_done (by kernel_rfl) ?_ _
            clear hHeld
            cases o with
            | none =>
              have hr := HO1.out rfl
              subst hr
              go_wp2_with fail
              go_ret2
              exact ⟨_, rfl, HBv.out.trans (HW8.out.mono HBv.out.size), fun L' e => by cases e⟩
            | some M' =>
              go_wp2_with fail
              go_roundw
              case rel => exact ⟨j + 1, M', by go_num, by omega, Lib.hid (HROW.out M' rfl), Lib.hid (HNXT.out M' rfl), Lib.hid (HO2.out M' rfl), HW8⟩
              case measure => simp [intOf]; omega
          · obtain rfl : j = xs.length := by omega
            have hr : r = some M := by
             have h := HLOOP.out
             rw [List.drop_length, HLE.out, List.drop_length] at h
             unfold Ux.loopU at h
             injection h with h; exact h.symm
            go_wp2_with fail
            go_ret2
            subst hr
            exact ⟨_, rfl, HBv.out.trans (HW.out.mono HBv.out.size), fun L' e => by injection e with e; rw [← e]; exact HLV.out⟩
end Go.Proofs.YtcblppojnailpaaDoor
