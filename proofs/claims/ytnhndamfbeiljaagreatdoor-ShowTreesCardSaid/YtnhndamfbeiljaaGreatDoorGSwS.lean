/-
  Several texts in one: WFnT, WFnC, WFnP, WFnA.
-/
import Derived.Test.YtnhndamfbeiljaaGreatDoorGSwM
import Derived.Deep.RegionHeld3
namespace Go.Proofs.YtnhndamfbeiljaaGreatDoor
open Go Go.RowKit
set_option linter.unusedVariables false
set_option linter.unusedSimpArgs false
namespace Sw
set_option maxHeartbeats 4000000 in
set_option maxRecDepth 100000 in
theorem typeN {w0 : World} (f : Nat) {B : Nat} {w : World} {T : List UInt8} {S : List Nd} (u : Value) (x : Px.TypeE) (hx : TypeAt f w0 u x) (h : St w0 B w T S) (hs : Small T S (step (.typ f x))) :
    Calls Tryz.prog 30 #[.pointer (some ⟨B, 0, none⟩), u] w (Did w0 B T S (step (.typ f x))) := by
  cases f with
  | zero => exact hx.elim
  | succ f =>
    obtain ⟨p, nm, args⟩ := x
    obtain ⟨av, rfl, h1⟩ := hx
    obtain ⟨q, c, rfl⟩ := h1.len
    simp only [step] at hs ⊢
    have H := Lib.hid h
    have HS := Lib.hid hs
    replace h1 := Lib.hid h1
    clear h hs
    go_enter Tryz.func30, Tryz.ntmps30
    have EX := Lib.hid (ent_new w #[.int .i64 (p : Nat), .string ⟨nm.toArray⟩, .slice q args.length c] 42)
    have HB := Lib.hid (show Below w.heap.size w (w.alloc (.cells #[.int .i64 (p : Nat), .string ⟨nm.toArray⟩, .slice q args.length c] 42)) from (Below.refl _ _).alloc (Nat.le_refl _) _)
    go_upto_region 1 with fail
    generalize w.alloc (.cells #[.int .i64 (p : Nat), .string ⟨nm.toArray⟩, .slice q args.length c] 42) = wb at EX HB ⊢
    have y1 := ent_cell EX.out 1 (.string ⟨nm.toArray⟩) rfl
    have y2 := ent_cell EX.out 2 (.slice q args.length c) rfl
    go_wp2_with fail
    refine (namedTypeE_any (TypeAt f w0) isTypeE (.typ f) 30 (fun _ _ _ h => h) (H.out.below HB.out) nm q args.length c args (row_below h1.out (H.out.base.trans (HB.out.mono H.out.base.size))) HS.out).mono ?_
    rintro e w2 ⟨rfl, hd⟩
    go_wp2_with fail
    go_end0
    exact ⟨rfl, hd⟩
set_option maxHeartbeats 4000000 in
set_option maxRecDepth 100000 in
theorem patN {w0 : World} (htab : Lib.TabIs Tryz.prog w0 "internal/strconv.uint64pow10" .u64 Lib.pow10Tab) (f : Nat) {B : Nat} {w : World} {T : List UInt8} {S : List Nd} (u : Value) (x : Px.Pat) (hx : PatG f w0 u x) (h : St w0 B w T S) (hs : Small T S (step (.pat f x))) :
    Calls Tryz.prog 75 #[.pointer (some ⟨B, 0, none⟩), u] w (Did w0 B T S (step (.pat f x))) := by
  obtain ⟨hx, hok⟩ := hx
  cases f with
  | zero => exact hx.elim
  | succ f =>
    obtain ⟨k, p, nm, i, args⟩ := x
    obtain ⟨av, rfl, h1⟩ := hx
    obtain ⟨q, c, rfl⟩ := h1.len
    obtain ⟨hi, hargs⟩ := hok
    simp only [step] at hs ⊢
    have H := Lib.hid h
    replace h1 : Hid (RowAt 5 (PatG f w0) w0 (.slice q args.length c) args) := Lib.hid (h1.mono (Below.refl _ _) fun u x hm hu => ⟨hu, hargs x hm⟩)
    have HI := Lib.hid hi
    have HTAB := Lib.hid htab
    clear h hi hargs htab
    go_enter Tryz.func75, Tryz.ntmps75
    have EX := Lib.hid (ent_new w #[.int .i64 (k : Nat), .int .i64 (p : Nat), .string ⟨nm.toArray⟩, .int .i64 i, .slice q args.length c] 84)
    have HB := Lib.hid (show Below w.heap.size w (w.alloc (.cells #[.int .i64 (k : Nat), .int .i64 (p : Nat), .string ⟨nm.toArray⟩, .int .i64 i, .slice q args.length c] 84)) from (Below.refl _ _).alloc (Nat.le_refl _) _)
    go_upto_region 1 with fail
    generalize w.alloc (.cells #[.int .i64 (k : Nat), .int .i64 (p : Nat), .string ⟨nm.toArray⟩, .int .i64 i, .slice q args.length c] 84) = wb at EX HB ⊢
    have y0 := ent_cell EX.out 0 (.int .i64 (k : Nat)) rfl
    have y2 := ent_cell EX.out 2 (.string ⟨nm.toArray⟩) rfl
    have y3 := ent_cell EX.out 3 (.int .i64 i) rfl
    have y4 := ent_cell EX.out 4 (.slice q args.length c) rfl
    by_cases k0 : k = 0
    · subst k0
      rw [if_pos rfl] at hs ⊢
      have HS := Lib.hid hs
      clear hs
      go_wp2_with fail
      refine (wordN (H.out.below HB.out) [95] HS.out).mono ?_
      rintro e w2 ⟨rfl, hd⟩
      go_wp2_with fail
      go_end0
      exact ⟨rfl, hd⟩
    · rw [if_neg k0] at hs ⊢
      have k0i : ((k : Int) == 0) = false := by simpa using k0
      by_cases k2 : k = 2
      · subst k2
        rw [if_pos rfl] at hs ⊢
        have HS := Lib.hid hs
        have HI2 := Lib.hid (HI.out rfl)
        clear hs HI
        go_wp2_with fail
        refine (numberN (H.out.below HB.out) i HI2.out.1 HI2.out.2 HS.out HTAB.out).mono ?_
        rintro e w2 ⟨rfl, hd⟩
        go_wp2_with fail
        go_end0
        exact ⟨rfl, hd⟩
      · rw [if_neg k2] at hs ⊢
        have k2i : ((k : Int) == 2) = false := by simpa using (show ¬ ((k : Int) = 2) by omega)
        have HS := Lib.hid hs
        clear hs
        go_wp2_with fail
        refine (namedPat_any (PatG f w0) isPat (.pat f) 75 (fun _ _ _ h => h) (H.out.below HB.out) nm q args.length c args (row_below h1.out (H.out.base.trans (HB.out.mono H.out.base.size))) HS.out).mono ?_
        rintro e w2 ⟨rfl, hd⟩
        go_wp2_with fail
        go_end0
        exact ⟨rfl, hd⟩
end Sw
end Go.Proofs.YtnhndamfbeiljaaGreatDoor

namespace Go.Proofs.YtnhndamfbeiljaaGreatDoor
open Go Go.RowKit
set_option linter.unusedVariables false
set_option linter.unusedSimpArgs false
namespace Sw
set_option maxHeartbeats 4000000 in
set_option maxRecDepth 100000 in
theorem conN {w0 : World} (f : Nat) {B : Nat} {w : World} {T : List UInt8} {S : List Nd} (u : Value) (x : Px.Con) (hx : ConAt f w0 u x) (h : St w0 B w T S) (hs : Small T S (step (.con f x))) :
    Calls Tryz.prog 59 #[.pointer (some ⟨B, 0, none⟩), u] w (Did w0 B T S (step (.con f x))) := by
  obtain ⟨p, nm, fs⟩ := x
  obtain ⟨av, rfl, h1⟩ := hx
  obtain ⟨q, c, rfl⟩ := h1.len
  dsimp only at h1 hs ⊢
  simp only [step] at hs ⊢
  have H := Lib.hid h
  have HS := Lib.hid hs
  have HN : Hid (fs.length ≤ 1000000) := Lib.hid (by have := hs.2; have h2 := weave_len (.word nm :: fs.map (.typ f)); simp only [List.length_append, List.length_cons, List.length_map] at this h2; omega)
  replace h1 := Lib.hid h1
  clear h hs
  go_enter Tryz.func59, Tryz.ntmps59
  have EX := Lib.hid (ent_new w #[.int .i64 (p : Nat), .string ⟨nm.toArray⟩, .slice q fs.length c] 40)
  have HB := Lib.hid (show Below w.heap.size w (w.alloc (.cells #[.int .i64 (p : Nat), .string ⟨nm.toArray⟩, .slice q fs.length c] 40)) from (Below.refl _ _).alloc (Nat.le_refl _) _)
  go_upto_region 1 with fail
  generalize w.alloc (.cells #[.int .i64 (p : Nat), .string ⟨nm.toArray⟩, .slice q fs.length c] 40) = wb at EX HB ⊢
  refine wp_region_held_drew (S := fun (u : World) => u.heap[w.heap.size]? = some (.cells #[.int .i64 (p : Nat), .string ⟨nm.toArray⟩, .slice q fs.length c] 40 (0, 0))) (by kernel_rfl) (show wb.drew.heap[w.heap.size]? = some (.cells #[.int .i64 (p : Nat), .string ⟨nm.toArray⟩, .slice q fs.length c] 40 (0, 0)) from EX.out) (fun hHeld => ?_)
  have HBd := Lib.hid (show Below w.heap.size w wb.drew from HB.out.drew)
  have EXd := Lib.hid (show wb.drew.heap[w.heap.size]? = some (.cells #[.int .i64 (p : Nat), .string ⟨nm.toArray⟩, .slice q fs.length c] 40 (0, 0)) from EX.out)
  clear HB EX
  generalize wb.drew = wd at HBd EXd hHeld ⊢
  have HB := HBd
  have EX := EXd
  clear HBd EXd
  refine wpAnyH_take (i := 0) (v := .pointer (some ⟨B, 0, none⟩)) rfl (by kernel_rfl) (by kernel_rfl) (by kernel_rfl) (fun _ _ _ h => h) (Or.inl ⟨by rfl, fun w' hSw => by go_simp⟩) hHeld ?_
  refine wpAnyH_take (i := 1) (v := .pointer (some ⟨w.heap.size, 1, none⟩)) rfl (by kernel_rfl) (by kernel_rfl) (by kernel_rfl) (fun _ _ _ h => h) (Or.inl ⟨by rfl, fun w' hSw => by go_simp⟩) hHeld ?_
  refine wpAnyH_take (i := 2) (v := .string ⟨nm.toArray⟩) rfl (by kernel_rfl) (by kernel_rfl) (by kernel_rfl) (fun _ _ _ h => h) (Or.inl ⟨by rfl, fun w' hSw => by have hq : w'.heap[w.heap.size]? = some (.cells #[.int .i64 (p : Nat), .string ⟨nm.toArray⟩, .slice q fs.length c] 40 (0, 0)) := hSw; have z1 := ent_cell hq 1 (.string ⟨nm.toArray⟩) rfl; go_simp⟩) hHeld ?_
  refine wpAnyH_take (i := 5) (v := .pointer (some ⟨w.heap.size, 2, none⟩)) rfl (by kernel_rfl) (by kernel_rfl) (by kernel_rfl) (fun _ _ _ h => h) (Or.inl ⟨by rfl, fun w' hSw => by go_simp⟩) hHeld ?_
  refine wpAnyH_take (i := 6) (v := .slice q fs.length c) rfl (by kernel_rfl) (by kernel_rfl) (by kernel_rfl) (fun _ _ _ h => h) (Or.inl ⟨by rfl, fun w' hSw => by have hq : w'.heap[w.heap.size]? = some (.cells #[.int .i64 (p : Nat), .string ⟨nm.toArray⟩, .slice q fs.length c] 40 (0, 0)) := hSw; have z2 := ent_cell hq 2 (.slice q fs.length c) rfl; go_simp⟩) hHeld ?_
  try simp only [Act.put, List.getElem_toArray, List.getElem_cons_succ, List.getElem_cons_zero, List.setIfInBounds_toArray, List.set_cons_zero, List.set_cons_succ]
  refine wpAnyH_ready (rs := [3]) (by kernel_rfl) (by simp) ?_
  refine AllReadyH.cons rfl (fun K hK => ?_) AllReadyH.nil
  go_simp
  have hr0 := row_made wd [nm] (by simp)
  have hb0 : Below wd.heap.size wd (wd.alloc (.cells ([nm].map fun s => Value.string ⟨s.toArray⟩).toArray 9)) := (Below.refl _ _).alloc (Nat.le_refl _) _
  have HR0 := Lib.hid hr0
  have HB0 := Lib.hid hb0
  clear hr0 hb0
  refine hK.out _ _ (ent_alloc EX.out _) (fun hHeld => ?_)
  clear hK K
  refine wpAnyH_ready (rs := [4]) (by kernel_rfl) (by simp) ?_
  refine AllReadyH.cons rfl (fun K hK => ?_) AllReadyH.nil
  go_simp
  refine (words_any _ [nm] _ HR0.out (by simp)).mono ?_
  rintro e u1 ⟨rv, vs1, rfl, hb, hown, hrr⟩
  obtain ⟨p1, c1, rfl⟩ := own_sl hown
  have hbb : Below wd.heap.size wd u1 := HB0.out.trans (hb.mono HB0.out.size)
  have HR1 : Hid (Reps (NodeV w0 u1) vs1 ([nm].map Nd.word)) := Lib.hid (reps_map (rep' := NodeV w0 u1) (mk := .word) (fun v x hv => hv) hrr)
  have HV1 : Hid (VRow w.heap.size u1 (.slice p1 1 c1) vs1) := Lib.hid (own_vrowN hown (by have := HB.out.size; have := HB0.out.size; omega) HR1.out)
  replace HB := Lib.hid (HB.out.trans (hbb.mono HB.out.size))
  replace EX := Lib.hid (ent_below EX.out hbb)
  clear hb hown hrr hbb
  refine hK.out _ _ (EX.out) (fun hHeld => ?_)
  clear hK K
  refine wpAnyH_ready (rs := [7]) (by kernel_rfl) (by simp) ?_
  refine AllReadyH.cons rfl (fun K hK => ?_) AllReadyH.nil
  go_simp
  refine (allTypeE_any (TypeAt f w0) (isTypeE) (.slice q fs.length c) fs 30 u1 (row_below h1.out (H.out.base.trans (HB.out.mono H.out.base.size))) (HN.out)).mono ?_
  rintro e u2 ⟨rv, vs2, rfl, hb, hown, hrr⟩
  obtain ⟨p2, c2, rfl⟩ := own_sl hown
  have hbb : Below u1.heap.size u1 u2 := hb
  have HR2 : Hid (Reps (NodeV w0 u2) vs2 (fs.map (.typ f))) := Lib.hid (reps_map (rep' := NodeV w0 u2) (mk := .typ f) (fun v x hv => hv) hrr)
  have HV2 : Hid (VRow w.heap.size u2 (.slice p2 fs.length c2) vs2) := Lib.hid (own_vrowN hown (HB.out.size) HR2.out)
  replace HV1 := Lib.hid (VRow.below HV1.out hbb)
  replace HR1 := Lib.hid (reps_keep hbb HR1.out)
  replace HB := Lib.hid (HB.out.trans (hbb.mono HB.out.size))
  replace EX := Lib.hid (ent_below EX.out hbb)
  clear hb hown hrr hbb
  refine hK.out _ _ (EX.out) (fun hHeld => ?_)
  clear hK K
  refine wpAnyH_ready (rs := [8]) (by kernel_rfl) (by simp) ?_
  refine AllReadyH.cons rfl (fun K hK => ?_) AllReadyH.nil
  go_simp
  refine hK.out _ _ (ent_alloc EX.out _) (fun hHeld => ?_)
  clear hK K
  refine wpAnyH_ready (rs := [9]) (by kernel_rfl) (by simp) ?_
  refine AllReadyH.cons rfl (fun K hK => ?_) AllReadyH.nil
  go_simp
  have hb4 : Below u2.heap.size u2 (u2.alloc (.cells #[.slice p1 1 c1, .slice p2 fs.length c2] 120)) := (Below.refl _ _).alloc (Nat.le_refl _) _
  refine (listN H.out (HB.out.trans (hb4.mono HB.out.size)) _ _ _ [vs1, vs2] [([nm].map Nd.word), (fs.map (.typ f))] (.word nm :: fs.map (.typ f)) (by simp)
    (grow_of (lo := w.heap.size) (ls := [vs1, vs2]) (wk := u2) (ss := [.slice p1 1 c1, .slice p2 fs.length c2]) ⟨HV1.out, HV2.out, trivial⟩ HB.out.size (by simp) rfl rfl) ⟨reps_keep hb4 HR1.out, reps_keep hb4 HR2.out, trivial⟩ HS.out (by simp)).mono ?_
  rintro e wz ⟨⟨rfl, hd⟩, hkp⟩
  refine hK.out _ _ (hkp.2 _ _ _ (ent_alloc EX.out _) (by decide) (by decide) (by decide)) (fun hHeld => ?_)
  clear hK K
  refine wpAnyH_done (by kernel_rfl) ?_ _
  go_wp2_with fail
  go_end0
  exact ⟨rfl, hd⟩
end Sw
end Go.Proofs.YtnhndamfbeiljaaGreatDoor

namespace Go.Proofs.YtnhndamfbeiljaaGreatDoor
open Go Go.RowKit
set_option linter.unusedVariables false
set_option linter.unusedSimpArgs false
namespace Sw
set_option maxHeartbeats 4000000 in
set_option maxRecDepth 100000 in
theorem pairN {w0 : World} (f : Nat) {B : Nat} {w : World} {T : List UInt8} {S : List Nd} (u : Value) (x : List UInt8 × Px.Expr) (hx : PairG f w0 u x) (h : St w0 B w T S) (hs : Small T S (step (.pair f x))) :
    Calls Tryz.prog 68 #[.pointer (some ⟨B, 0, none⟩), u] w (Did w0 B T S (step (.pair f x))) := by
  obtain ⟨nm, x⟩ := x
  obtain ⟨⟨b0, b1, b2, b3, b4, b5, b6, rfl, h2⟩, hok⟩ := hx
  obtain ⟨i0, i1, t2, i3, q4, n4, c4, q5, n5, c5, q6, n6, c6, e2⟩ := isExpr0 _ _ h2
  obtain ⟨rfl, rfl, rfl, rfl, rfl, rfl, rfl⟩ := agg7 e2
  dsimp only at h2 hok hs ⊢
  simp only [step] at hs ⊢
  have HXE : Hid (ExprG f w0 (.agg #[.int .i64 i0, .int .i64 i1, .string t2, .int .i64 i3, .slice q4 n4 c4, .slice q5 n5 c5, .slice q6 n6 c6]) x) := Lib.hid ⟨h2, hok⟩
  have H := Lib.hid h
  have HS := Lib.hid hs
  clear h hs h2 hok e2
  go_enter Tryz.func68, Tryz.ntmps68
  have EX := Lib.hid (ent_new w #[.string ⟨nm.toArray⟩, .int .i64 i0, .int .i64 i1, .string t2, .int .i64 i3, .slice q4 n4 c4, .slice q5 n5 c5, .slice q6 n6 c6] 142)
  have HB := Lib.hid (show Below w.heap.size w (w.alloc (.cells #[.string ⟨nm.toArray⟩, .int .i64 i0, .int .i64 i1, .string t2, .int .i64 i3, .slice q4 n4 c4, .slice q5 n5 c5, .slice q6 n6 c6] 142)) from (Below.refl _ _).alloc (Nat.le_refl _) _)
  go_upto_region 1 with fail
  generalize w.alloc (.cells #[.string ⟨nm.toArray⟩, .int .i64 i0, .int .i64 i1, .string t2, .int .i64 i3, .slice q4 n4 c4, .slice q5 n5 c5, .slice q6 n6 c6] 142) = wb at EX HB ⊢
  refine wp_region_held_drew (S := fun (u : World) => u.heap[w.heap.size]? = some (.cells #[.string ⟨nm.toArray⟩, .int .i64 i0, .int .i64 i1, .string t2, .int .i64 i3, .slice q4 n4 c4, .slice q5 n5 c5, .slice q6 n6 c6] 142 (0, 0))) (by kernel_rfl) (show wb.drew.heap[w.heap.size]? = some (.cells #[.string ⟨nm.toArray⟩, .int .i64 i0, .int .i64 i1, .string t2, .int .i64 i3, .slice q4 n4 c4, .slice q5 n5 c5, .slice q6 n6 c6] 142 (0, 0)) from EX.out) (fun hHeld => ?_)
  have HBd := Lib.hid (show Below w.heap.size w wb.drew from HB.out.drew)
  have EXd := Lib.hid (show wb.drew.heap[w.heap.size]? = some (.cells #[.string ⟨nm.toArray⟩, .int .i64 i0, .int .i64 i1, .string t2, .int .i64 i3, .slice q4 n4 c4, .slice q5 n5 c5, .slice q6 n6 c6] 142 (0, 0)) from EX.out)
  clear HB EX
  generalize wb.drew = wd at HBd EXd hHeld ⊢
  have HB := HBd
  have EX := EXd
  clear HBd EXd
  refine wpAnyH_take (i := 0) (v := .pointer (some ⟨B, 0, none⟩)) rfl (by kernel_rfl) (by kernel_rfl) (by kernel_rfl) (fun _ _ _ h => h) (Or.inl ⟨by rfl, fun w' hSw => by go_simp⟩) hHeld ?_
  refine wpAnyH_take (i := 1) (v := .pointer (some ⟨w.heap.size, 0, none⟩)) rfl (by kernel_rfl) (by kernel_rfl) (by kernel_rfl) (fun _ _ _ h => h) (Or.inl ⟨by rfl, fun w' hSw => by go_simp⟩) hHeld ?_
  refine wpAnyH_take (i := 2) (v := .string ⟨nm.toArray⟩) rfl (by kernel_rfl) (by kernel_rfl) (by kernel_rfl) (fun _ _ _ h => h) (Or.inl ⟨by rfl, fun w' hSw => by have hq : w'.heap[w.heap.size]? = some (.cells #[.string ⟨nm.toArray⟩, .int .i64 i0, .int .i64 i1, .string t2, .int .i64 i3, .slice q4 n4 c4, .slice q5 n5 c5, .slice q6 n6 c6] 142 (0, 0)) := hSw; have z0 := ent_cell hq 0 (.string ⟨nm.toArray⟩) rfl; go_simp⟩) hHeld ?_
  refine wpAnyH_take (i := 5) (v := .pointer (some ⟨w.heap.size, 1, none⟩)) rfl (by kernel_rfl) (by kernel_rfl) (by kernel_rfl) (fun _ _ _ h => h) (Or.inl ⟨by rfl, fun w' hSw => by go_simp⟩) hHeld ?_
  refine wpAnyH_take (i := 6) (v := .agg #[.int .i64 i0, .int .i64 i1, .string t2, .int .i64 i3, .slice q4 n4 c4, .slice q5 n5 c5, .slice q6 n6 c6]) rfl (by kernel_rfl) (by kernel_rfl) (by kernel_rfl) (fun _ _ _ h => h) (Or.inl ⟨by rfl, fun w' hSw => by have hq : w'.heap[w.heap.size]? = some (.cells #[.string ⟨nm.toArray⟩, .int .i64 i0, .int .i64 i1, .string t2, .int .i64 i3, .slice q4 n4 c4, .slice q5 n5 c5, .slice q6 n6 c6] 142 (0, 0)) := hSw; have z1 := ent_cell hq 1 (.int .i64 i0) rfl; have z2 := ent_cell hq 2 (.int .i64 i1) rfl; have z3 := ent_cell hq 3 (.string t2) rfl; have z4 := ent_cell hq 4 (.int .i64 i3) rfl; have z5 := ent_cell hq 5 (.slice q4 n4 c4) rfl; have z6 := ent_cell hq 6 (.slice q5 n5 c5) rfl; have z7 := ent_cell hq 7 (.slice q6 n6 c6) rfl; go_simp⟩) hHeld ?_
  try simp only [Act.put, List.getElem_toArray, List.getElem_cons_succ, List.getElem_cons_zero, List.setIfInBounds_toArray, List.set_cons_zero, List.set_cons_succ]
  refine wpAnyH_ready (rs := [3]) (by kernel_rfl) (by simp) ?_
  refine AllReadyH.cons rfl (fun K hK => ?_) AllReadyH.nil
  go_simp
  have hr0 := row_made wd [nm] (by simp)
  have hb0 : Below wd.heap.size wd (wd.alloc (.cells ([nm].map fun s => Value.string ⟨s.toArray⟩).toArray 9)) := (Below.refl _ _).alloc (Nat.le_refl _) _
  have HR0 := Lib.hid hr0
  have HB0 := Lib.hid hb0
  clear hr0 hb0
  refine hK.out _ _ (ent_alloc EX.out _) (fun hHeld => ?_)
  clear hK K
  refine wpAnyH_ready (rs := [4]) (by kernel_rfl) (by simp) ?_
  refine AllReadyH.cons rfl (fun K hK => ?_) AllReadyH.nil
  go_simp
  refine (words_any _ [nm] _ HR0.out (by simp)).mono ?_
  rintro e u1 ⟨rv, vs1, rfl, hb, hown, hrr⟩
  obtain ⟨p1, c1, rfl⟩ := own_sl hown
  have hbb : Below wd.heap.size wd u1 := HB0.out.trans (hb.mono HB0.out.size)
  have HR1 : Hid (Reps (NodeV w0 u1) vs1 ([nm].map Nd.word)) := Lib.hid (reps_map (rep' := NodeV w0 u1) (mk := .word) (fun v x hv => hv) hrr)
  have HV1 : Hid (VRow w.heap.size u1 (.slice p1 1 c1) vs1) := Lib.hid (own_vrowN hown (by have := HB.out.size; have := HB0.out.size; omega) HR1.out)
  replace HB := Lib.hid (HB.out.trans (hbb.mono HB.out.size))
  replace EX := Lib.hid (ent_below EX.out hbb)
  clear hb hown hrr hbb
  refine hK.out _ _ (EX.out) (fun hHeld => ?_)
  clear hK K
  refine wpAnyH_ready (rs := [7]) (by kernel_rfl) (by simp) ?_
  refine AllReadyH.cons rfl (fun K hK => ?_) AllReadyH.nil
  go_simp
  refine (oneExpr_any (ExprG f w0) (isExpr) (.agg #[.int .i64 i0, .int .i64 i1, .string t2, .int .i64 i3, .slice q4 n4 c4, .slice q5 n5 c5, .slice q6 n6 c6]) (x) 34 u1 (HXE.out)).mono ?_
  rintro e u2 ⟨rv, o2, rfl, hb, hown, hrr⟩
  obtain ⟨p2, c2, rfl⟩ := own_sl hown
  have hbb : Below u1.heap.size u1 u2 := hb
  have HR2 : Hid (Reps (NodeV w0 u2) [o2] [.expr f x]) := Lib.hid (⟨hrr, trivial⟩)
  have HV2 : Hid (VRow w.heap.size u2 (.slice p2 1 c2) [o2]) := Lib.hid (own_vrowN hown (HB.out.size) HR2.out)
  replace HV1 := Lib.hid (VRow.below HV1.out hbb)
  replace HR1 := Lib.hid (reps_keep hbb HR1.out)
  replace HB := Lib.hid (HB.out.trans (hbb.mono HB.out.size))
  replace EX := Lib.hid (ent_below EX.out hbb)
  clear hb hown hrr hbb
  refine hK.out _ _ (EX.out) (fun hHeld => ?_)
  clear hK K
  refine wpAnyH_ready (rs := [8]) (by kernel_rfl) (by simp) ?_
  refine AllReadyH.cons rfl (fun K hK => ?_) AllReadyH.nil
  go_simp
  refine hK.out _ _ (ent_alloc EX.out _) (fun hHeld => ?_)
  clear hK K
  refine wpAnyH_ready (rs := [9]) (by kernel_rfl) (by simp) ?_
  refine AllReadyH.cons rfl (fun K hK => ?_) AllReadyH.nil
  go_simp
  have hb4 : Below u2.heap.size u2 (u2.alloc (.cells #[.slice p1 1 c1, .slice p2 1 c2] 120)) := (Below.refl _ _).alloc (Nat.le_refl _) _
  refine (listN H.out (HB.out.trans (hb4.mono HB.out.size)) _ _ _ [vs1, [o2]] [([nm].map Nd.word), [.expr f x]] ([.word nm, .expr f x]) (by simp)
    (grow_of (lo := w.heap.size) (ls := [vs1, [o2]]) (wk := u2) (ss := [.slice p1 1 c1, .slice p2 1 c2]) ⟨HV1.out, HV2.out, trivial⟩ HB.out.size (by simp) rfl rfl) ⟨reps_keep hb4 HR1.out, reps_keep hb4 HR2.out, trivial⟩ HS.out (by simp)).mono ?_
  rintro e wz ⟨⟨rfl, hd⟩, hkp⟩
  refine hK.out _ _ (hkp.2 _ _ _ (ent_alloc EX.out _) (by decide) (by decide) (by decide)) (fun hHeld => ?_)
  clear hK K
  refine wpAnyH_done (by kernel_rfl) ?_ _
  go_wp2_with fail
  go_end0
  exact ⟨rfl, hd⟩
end Sw
end Go.Proofs.YtnhndamfbeiljaaGreatDoor

namespace Go.Proofs.YtnhndamfbeiljaaGreatDoor
open Go Go.RowKit
set_option linter.unusedVariables false
set_option linter.unusedSimpArgs false
namespace Sw
set_option maxHeartbeats 4000000 in
set_option maxRecDepth 100000 in
theorem altN {w0 : World} (f : Nat) {B : Nat} {w : World} {T : List UInt8} {S : List Nd} (u : Value) (x : Px.Pat × Px.Expr) (hx : AltG f w0 u x) (h : St w0 B w T S) (hs : Small T S (step (.alt f x))) :
    Calls Tryz.prog 70 #[.pointer (some ⟨B, 0, none⟩), u] w (Did w0 B T S (step (.alt f x))) := by
  obtain ⟨x, y⟩ := x
  obtain ⟨⟨a0, a1, a2, a3, a4, b0, b1, b2, b3, b4, b5, b6, rfl, h1, h2⟩, hok1, hok2⟩ := hx
  obtain ⟨i0, i1, t2, i3, q4, n4, c4, e1⟩ := isPat0 _ _ h1
  obtain ⟨i5, i6, t7, i8, q9, n9, c9, q10, n10, c10, q11, n11, c11, e2⟩ := isExpr0 _ _ h2
  obtain ⟨rfl, rfl, rfl, rfl, rfl⟩ := agg5 e1
  obtain ⟨rfl, rfl, rfl, rfl, rfl, rfl, rfl⟩ := agg7 e2
  dsimp only at h1 h2 hok1 hok2 hs ⊢
  simp only [step] at hs ⊢
  have HXP : Hid (PatG f w0 (.agg #[.int .i64 i0, .int .i64 i1, .string t2, .int .i64 i3, .slice q4 n4 c4]) x) := Lib.hid ⟨h1, hok1⟩
  have HXE : Hid (ExprG f w0 (.agg #[.int .i64 i5, .int .i64 i6, .string t7, .int .i64 i8, .slice q9 n9 c9, .slice q10 n10 c10, .slice q11 n11 c11]) y) := Lib.hid ⟨h2, hok2⟩
  have H := Lib.hid h
  have HS := Lib.hid hs
  clear h hs h1 h2 hok1 hok2 e1 e2
  go_enter Tryz.func70, Tryz.ntmps70
  have EX := Lib.hid (ent_new w #[.int .i64 i0, .int .i64 i1, .string t2, .int .i64 i3, .slice q4 n4 c4, .int .i64 i5, .int .i64 i6, .string t7, .int .i64 i8, .slice q9 n9 c9, .slice q10 n10 c10, .slice q11 n11 c11] 86)
  have HB := Lib.hid (show Below w.heap.size w (w.alloc (.cells #[.int .i64 i0, .int .i64 i1, .string t2, .int .i64 i3, .slice q4 n4 c4, .int .i64 i5, .int .i64 i6, .string t7, .int .i64 i8, .slice q9 n9 c9, .slice q10 n10 c10, .slice q11 n11 c11] 86)) from (Below.refl _ _).alloc (Nat.le_refl _) _)
  go_upto_region 1 with fail
  generalize w.alloc (.cells #[.int .i64 i0, .int .i64 i1, .string t2, .int .i64 i3, .slice q4 n4 c4, .int .i64 i5, .int .i64 i6, .string t7, .int .i64 i8, .slice q9 n9 c9, .slice q10 n10 c10, .slice q11 n11 c11] 86) = wb at EX HB ⊢
  refine wp_region_held_drew (S := fun (u : World) => u.heap[w.heap.size]? = some (.cells #[.int .i64 i0, .int .i64 i1, .string t2, .int .i64 i3, .slice q4 n4 c4, .int .i64 i5, .int .i64 i6, .string t7, .int .i64 i8, .slice q9 n9 c9, .slice q10 n10 c10, .slice q11 n11 c11] 86 (0, 0))) (by kernel_rfl) (show wb.drew.heap[w.heap.size]? = some (.cells #[.int .i64 i0, .int .i64 i1, .string t2, .int .i64 i3, .slice q4 n4 c4, .int .i64 i5, .int .i64 i6, .string t7, .int .i64 i8, .slice q9 n9 c9, .slice q10 n10 c10, .slice q11 n11 c11] 86 (0, 0)) from EX.out) (fun hHeld => ?_)
  have HBd := Lib.hid (show Below w.heap.size w wb.drew from HB.out.drew)
  have EXd := Lib.hid (show wb.drew.heap[w.heap.size]? = some (.cells #[.int .i64 i0, .int .i64 i1, .string t2, .int .i64 i3, .slice q4 n4 c4, .int .i64 i5, .int .i64 i6, .string t7, .int .i64 i8, .slice q9 n9 c9, .slice q10 n10 c10, .slice q11 n11 c11] 86 (0, 0)) from EX.out)
  clear HB EX
  generalize wb.drew = wd at HBd EXd hHeld ⊢
  have HB := HBd
  have EX := EXd
  clear HBd EXd
  refine wpAnyH_take (i := 0) (v := .pointer (some ⟨B, 0, none⟩)) rfl (by kernel_rfl) (by kernel_rfl) (by kernel_rfl) (fun _ _ _ h => h) (Or.inl ⟨by rfl, fun w' hSw => by go_simp⟩) hHeld ?_
  refine wpAnyH_take (i := 1) (v := .pointer (some ⟨w.heap.size, 0, none⟩)) rfl (by kernel_rfl) (by kernel_rfl) (by kernel_rfl) (fun _ _ _ h => h) (Or.inl ⟨by rfl, fun w' hSw => by go_simp⟩) hHeld ?_
  refine wpAnyH_take (i := 2) (v := .agg #[.int .i64 i0, .int .i64 i1, .string t2, .int .i64 i3, .slice q4 n4 c4]) rfl (by kernel_rfl) (by kernel_rfl) (by kernel_rfl) (fun _ _ _ h => h) (Or.inl ⟨by rfl, fun w' hSw => by have hq : w'.heap[w.heap.size]? = some (.cells #[.int .i64 i0, .int .i64 i1, .string t2, .int .i64 i3, .slice q4 n4 c4, .int .i64 i5, .int .i64 i6, .string t7, .int .i64 i8, .slice q9 n9 c9, .slice q10 n10 c10, .slice q11 n11 c11] 86 (0, 0)) := hSw; have z0 := ent_cell hq 0 (.int .i64 i0) rfl; have z1 := ent_cell hq 1 (.int .i64 i1) rfl; have z2 := ent_cell hq 2 (.string t2) rfl; have z3 := ent_cell hq 3 (.int .i64 i3) rfl; have z4 := ent_cell hq 4 (.slice q4 n4 c4) rfl; go_simp⟩) hHeld ?_
  refine wpAnyH_take (i := 4) (v := .pointer (some ⟨w.heap.size, 5, none⟩)) rfl (by kernel_rfl) (by kernel_rfl) (by kernel_rfl) (fun _ _ _ h => h) (Or.inl ⟨by rfl, fun w' hSw => by go_simp⟩) hHeld ?_
  refine wpAnyH_take (i := 5) (v := .agg #[.int .i64 i5, .int .i64 i6, .string t7, .int .i64 i8, .slice q9 n9 c9, .slice q10 n10 c10, .slice q11 n11 c11]) rfl (by kernel_rfl) (by kernel_rfl) (by kernel_rfl) (fun _ _ _ h => h) (Or.inl ⟨by rfl, fun w' hSw => by have hq : w'.heap[w.heap.size]? = some (.cells #[.int .i64 i0, .int .i64 i1, .string t2, .int .i64 i3, .slice q4 n4 c4, .int .i64 i5, .int .i64 i6, .string t7, .int .i64 i8, .slice q9 n9 c9, .slice q10 n10 c10, .slice q11 n11 c11] 86 (0, 0)) := hSw; have z5 := ent_cell hq 5 (.int .i64 i5) rfl; have z6 := ent_cell hq 6 (.int .i64 i6) rfl; have z7 := ent_cell hq 7 (.string t7) rfl; have z8 := ent_cell hq 8 (.int .i64 i8) rfl; have z9 := ent_cell hq 9 (.slice q9 n9 c9) rfl; have z10 := ent_cell hq 10 (.slice q10 n10 c10) rfl; have z11 := ent_cell hq 11 (.slice q11 n11 c11) rfl; go_simp⟩) hHeld ?_
  try simp only [Act.put, List.getElem_toArray, List.getElem_cons_succ, List.getElem_cons_zero, List.setIfInBounds_toArray, List.set_cons_zero, List.set_cons_succ]
  refine wpAnyH_ready (rs := [3]) (by kernel_rfl) (by simp) ?_
  refine AllReadyH.cons rfl (fun K hK => ?_) AllReadyH.nil
  go_simp
  refine (onePat_any (PatG f w0) (isPat) (.agg #[.int .i64 i0, .int .i64 i1, .string t2, .int .i64 i3, .slice q4 n4 c4]) (x) 75 wd (HXP.out)).mono ?_
  rintro e u1 ⟨rv, o1, rfl, hb, hown, hrr⟩
  obtain ⟨p1, c1, rfl⟩ := own_sl hown
  have hbb : Below wd.heap.size wd u1 := hb
  have HR1 : Hid (Reps (NodeV w0 u1) [o1] [.pat f x]) := Lib.hid (⟨hrr, trivial⟩)
  have HV1 : Hid (VRow w.heap.size u1 (.slice p1 1 c1) [o1]) := Lib.hid (own_vrowN hown (HB.out.size) HR1.out)
  replace HB := Lib.hid (HB.out.trans (hbb.mono HB.out.size))
  replace EX := Lib.hid (ent_below EX.out hbb)
  clear hb hown hrr hbb
  refine hK.out _ _ (EX.out) (fun hHeld => ?_)
  clear hK K
  refine wpAnyH_ready (rs := [6]) (by kernel_rfl) (by simp) ?_
  refine AllReadyH.cons rfl (fun K hK => ?_) AllReadyH.nil
  go_simp
  refine (oneExpr_any (ExprG f w0) (isExpr) (.agg #[.int .i64 i5, .int .i64 i6, .string t7, .int .i64 i8, .slice q9 n9 c9, .slice q10 n10 c10, .slice q11 n11 c11]) (y) 34 u1 (HXE.out)).mono ?_
  rintro e u2 ⟨rv, o2, rfl, hb, hown, hrr⟩
  obtain ⟨p2, c2, rfl⟩ := own_sl hown
  have hbb : Below u1.heap.size u1 u2 := hb
  have HR2 : Hid (Reps (NodeV w0 u2) [o2] [.expr f y]) := Lib.hid (⟨hrr, trivial⟩)
  have HV2 : Hid (VRow w.heap.size u2 (.slice p2 1 c2) [o2]) := Lib.hid (own_vrowN hown (HB.out.size) HR2.out)
  replace HV1 := Lib.hid (VRow.below HV1.out hbb)
  replace HR1 := Lib.hid (reps_keep hbb HR1.out)
  replace HB := Lib.hid (HB.out.trans (hbb.mono HB.out.size))
  replace EX := Lib.hid (ent_below EX.out hbb)
  clear hb hown hrr hbb
  refine hK.out _ _ (EX.out) (fun hHeld => ?_)
  clear hK K
  refine wpAnyH_ready (rs := [7]) (by kernel_rfl) (by simp) ?_
  refine AllReadyH.cons rfl (fun K hK => ?_) AllReadyH.nil
  go_simp
  refine hK.out _ _ (ent_alloc EX.out _) (fun hHeld => ?_)
  clear hK K
  refine wpAnyH_ready (rs := [8]) (by kernel_rfl) (by simp) ?_
  refine AllReadyH.cons rfl (fun K hK => ?_) AllReadyH.nil
  go_simp
  have hb4 : Below u2.heap.size u2 (u2.alloc (.cells #[.slice p1 1 c1, .slice p2 1 c2] 120)) := (Below.refl _ _).alloc (Nat.le_refl _) _
  refine (listN H.out (HB.out.trans (hb4.mono HB.out.size)) _ _ _ [[o1], [o2]] [[.pat f x], [.expr f y]] ([.pat f x, .expr f y]) (by simp)
    (grow_of (lo := w.heap.size) (ls := [[o1], [o2]]) (wk := u2) (ss := [.slice p1 1 c1, .slice p2 1 c2]) ⟨HV1.out, HV2.out, trivial⟩ HB.out.size (by simp) rfl rfl) ⟨reps_keep hb4 HR1.out, reps_keep hb4 HR2.out, trivial⟩ HS.out (by simp)).mono ?_
  rintro e wz ⟨⟨rfl, hd⟩, hkp⟩
  refine hK.out _ _ (hkp.2 _ _ _ (ent_alloc EX.out _) (by decide) (by decide) (by decide)) (fun hHeld => ?_)
  clear hK K
  refine wpAnyH_done (by kernel_rfl) ?_ _
  go_wp2_with fail
  go_end0
  exact ⟨rfl, hd⟩
end Sw
end Go.Proofs.YtnhndamfbeiljaaGreatDoor
