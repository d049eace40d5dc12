/-
  Several texts in one: WFnD, WFnF, WFnR.
-/
import Derived.Test.YtnhndamfbeiljaaGreatDoorGSwM
import Derived.Deep.RegionHeld3
namespace Go.Proofs.YtnhndamfbeiljaaGreatDoor
open Go Go.RowKit
set_option linter.unusedVariables false
set_option linter.unusedSimpArgs false
namespace Sw
set_option maxHeartbeats 4000000 in
set_option maxRecDepth 100000 in
theorem dataN {w0 : World} (f : Nat) {B : Nat} {w : World} {T : List UInt8} {S : List Nd} (u : Value) (x : Px.Data) (hx : DataAt f w0 u x) (h : St w0 B w T S) (hs : Small T S (step (.data f x))) :
    Calls Tryz.prog 28 #[.pointer (some ⟨B, 0, none⟩), u] w (Did w0 B T S (step (.data f x))) := by
  obtain ⟨p, nm, ps, cs⟩ := x
  obtain ⟨nv, cv, rfl, h1, h2⟩ := hx
  obtain ⟨q1, k1, rfl⟩ := h1.len
  obtain ⟨q2, k2, rfl⟩ := h2.len
  dsimp only at h1 h2 hs ⊢
  simp only [step] at hs ⊢
  have H := Lib.hid h
  have HS := Lib.hid hs
  have HN : Hid (cs.length ≤ 1000000) := Lib.hid (by have := hs.2; have h2 := weave_len (.word [100, 97, 116, 97] :: .word nm :: .names ps :: cs.map (.con f)); simp only [List.length_append, List.length_cons, List.length_map, List.length_nil] at this h2; omega)
  replace h1 : Hid (RowAt 1 StrIs w0 (.slice q1 ps.length k1) ps) := Lib.hid h1
  replace h2 := Lib.hid h2
  clear h hs
  go_enter Tryz.func28, Tryz.ntmps28
  have EX := Lib.hid (ent_new w #[.int .i64 (p : Nat), .string ⟨nm.toArray⟩, .slice q1 ps.length k1, .slice q2 cs.length k2] 36)
  have HB := Lib.hid (show Below w.heap.size w (w.alloc (.cells #[.int .i64 (p : Nat), .string ⟨nm.toArray⟩, .slice q1 ps.length k1, .slice q2 cs.length k2] 36)) from (Below.refl _ _).alloc (Nat.le_refl _) _)
  go_upto_region 1 with fail
  generalize w.alloc (.cells #[.int .i64 (p : Nat), .string ⟨nm.toArray⟩, .slice q1 ps.length k1, .slice q2 cs.length k2] 36) = wb at EX HB ⊢
  refine wp_region_held_drew (S := fun (u : World) => u.heap[w.heap.size]? = some (.cells #[.int .i64 (p : Nat), .string ⟨nm.toArray⟩, .slice q1 ps.length k1, .slice q2 cs.length k2] 36 (0, 0))) (by kernel_rfl) (show wb.drew.heap[w.heap.size]? = some (.cells #[.int .i64 (p : Nat), .string ⟨nm.toArray⟩, .slice q1 ps.length k1, .slice q2 cs.length k2] 36 (0, 0)) from EX.out) (fun hHeld => ?_)
  have HBd := Lib.hid (show Below w.heap.size w wb.drew from HB.out.drew)
  have EXd := Lib.hid (show wb.drew.heap[w.heap.size]? = some (.cells #[.int .i64 (p : Nat), .string ⟨nm.toArray⟩, .slice q1 ps.length k1, .slice q2 cs.length k2] 36 (0, 0)) from EX.out)
  clear HB EX
  generalize wb.drew = wd at HBd EXd hHeld ⊢
  have HB := HBd
  have EX := EXd
  clear HBd EXd
  refine wpAnyH_take (i := 0) (v := .pointer (some ⟨B, 0, none⟩)) rfl (by kernel_rfl) (by kernel_rfl) (by kernel_rfl) (fun _ _ _ h => h) (Or.inl ⟨by rfl, fun w' hSw => by go_simp⟩) hHeld ?_
  refine wpAnyH_take (i := 1) (v := .pointer (some ⟨w.heap.size, 1, none⟩)) rfl (by kernel_rfl) (by kernel_rfl) (by kernel_rfl) (fun _ _ _ h => h) (Or.inl ⟨by rfl, fun w' hSw => by go_simp⟩) hHeld ?_
  refine wpAnyH_take (i := 2) (v := .string ⟨nm.toArray⟩) rfl (by kernel_rfl) (by kernel_rfl) (by kernel_rfl) (fun _ _ _ h => h) (Or.inl ⟨by rfl, fun w' hSw => by have hq : w'.heap[w.heap.size]? = some (.cells #[.int .i64 (p : Nat), .string ⟨nm.toArray⟩, .slice q1 ps.length k1, .slice q2 cs.length k2] 36 (0, 0)) := hSw; have z1 := ent_cell hq 1 (.string ⟨nm.toArray⟩) rfl; go_simp⟩) hHeld ?_
  refine wpAnyH_take (i := 5) (v := .pointer (some ⟨w.heap.size, 2, none⟩)) rfl (by kernel_rfl) (by kernel_rfl) (by kernel_rfl) (fun _ _ _ h => h) (Or.inl ⟨by rfl, fun w' hSw => by go_simp⟩) hHeld ?_
  refine wpAnyH_take (i := 6) (v := .slice q1 ps.length k1) rfl (by kernel_rfl) (by kernel_rfl) (by kernel_rfl) (fun _ _ _ h => h) (Or.inl ⟨by rfl, fun w' hSw => by have hq : w'.heap[w.heap.size]? = some (.cells #[.int .i64 (p : Nat), .string ⟨nm.toArray⟩, .slice q1 ps.length k1, .slice q2 cs.length k2] 36 (0, 0)) := hSw; have z2 := ent_cell hq 2 (.slice q1 ps.length k1) rfl; go_simp⟩) hHeld ?_
  refine wpAnyH_take (i := 8) (v := .pointer (some ⟨w.heap.size, 3, none⟩)) rfl (by kernel_rfl) (by kernel_rfl) (by kernel_rfl) (fun _ _ _ h => h) (Or.inl ⟨by rfl, fun w' hSw => by go_simp⟩) hHeld ?_
  refine wpAnyH_take (i := 9) (v := .slice q2 cs.length k2) rfl (by kernel_rfl) (by kernel_rfl) (by kernel_rfl) (fun _ _ _ h => h) (Or.inl ⟨by rfl, fun w' hSw => by have hq : w'.heap[w.heap.size]? = some (.cells #[.int .i64 (p : Nat), .string ⟨nm.toArray⟩, .slice q1 ps.length k1, .slice q2 cs.length k2] 36 (0, 0)) := hSw; have z3 := ent_cell hq 3 (.slice q2 cs.length k2) rfl; go_simp⟩) hHeld ?_
  try simp only [Act.put, List.getElem_toArray, List.getElem_cons_succ, List.getElem_cons_zero, List.setIfInBounds_toArray, List.set_cons_zero, List.set_cons_succ]
  refine wpAnyH_ready (rs := [3]) (by kernel_rfl) (by simp) ?_
  refine AllReadyH.cons rfl (fun K hK => ?_) AllReadyH.nil
  go_simp
  have hr0 := row_made wd [[100, 97, 116, 97], nm] (by simp)
  have hb0 : Below wd.heap.size wd (wd.alloc (.cells ([[100, 97, 116, 97], nm].map fun s => Value.string ⟨s.toArray⟩).toArray 9)) := (Below.refl _ _).alloc (Nat.le_refl _) _
  have HR0 := Lib.hid hr0
  have HB0 := Lib.hid hb0
  clear hr0 hb0
  refine hK.out _ _ (ent_alloc EX.out _) (fun hHeld => ?_)
  clear hK K
  refine wpAnyH_ready (rs := [4]) (by kernel_rfl) (by simp) ?_
  refine AllReadyH.cons rfl (fun K hK => ?_) AllReadyH.nil
  go_simp
  refine (words_any _ [[100, 97, 116, 97], nm] _ HR0.out (by simp)).mono ?_
  rintro e u1 ⟨rv, vs1, rfl, hb, hown, hrr⟩
  obtain ⟨p1, c1, rfl⟩ := own_sl hown
  have hbb : Below wd.heap.size wd u1 := HB0.out.trans (hb.mono HB0.out.size)
  have HR1 : Hid (Reps (NodeV w0 u1) vs1 ([[100, 97, 116, 97], nm].map Nd.word)) := Lib.hid (reps_map (rep' := NodeV w0 u1) (mk := .word) (fun v x hv => hv) hrr)
  have HV1 : Hid (VRow w.heap.size u1 (.slice p1 2 c1) vs1) := Lib.hid (own_vrowN hown (by have := HB.out.size; have := HB0.out.size; omega) HR1.out)
  replace HB := Lib.hid (HB.out.trans (hbb.mono HB.out.size))
  replace EX := Lib.hid (ent_below EX.out hbb)
  clear hb hown hrr hbb
  refine hK.out _ _ (EX.out) (fun hHeld => ?_)
  clear hK K
  refine wpAnyH_ready (rs := [7]) (by kernel_rfl) (by simp) ?_
  refine AllReadyH.cons rfl (fun K hK => ?_) AllReadyH.nil
  go_simp
  refine (names_any q1 ps.length k1 ps w0 u1 (h1.out)).mono ?_
  rintro e u2 ⟨rv, o2, rfl, hb, hown, hrr⟩
  obtain ⟨p2, c2, rfl⟩ := own_sl hown
  have hbb : Below u1.heap.size u1 u2 := hb
  have HR2 : Hid (Reps (NodeV w0 u2) [o2] [Nd.names ps]) := Lib.hid (⟨hrr, trivial⟩)
  have HV2 : Hid (VRow w.heap.size u2 (.slice p2 1 c2) [o2]) := Lib.hid (own_vrowN hown (HB.out.size) HR2.out)
  replace HV1 := Lib.hid (VRow.below HV1.out hbb)
  replace HR1 := Lib.hid (reps_keep hbb HR1.out)
  replace HB := Lib.hid (HB.out.trans (hbb.mono HB.out.size))
  replace EX := Lib.hid (ent_below EX.out hbb)
  clear hb hown hrr hbb
  refine hK.out _ _ (EX.out) (fun hHeld => ?_)
  clear hK K
  refine wpAnyH_ready (rs := [10]) (by kernel_rfl) (by simp) ?_
  refine AllReadyH.cons rfl (fun K hK => ?_) AllReadyH.nil
  go_simp
  refine (allCon_any (ConAt f w0) (isCon) (.slice q2 cs.length k2) cs 59 u2 (row_below h2.out (H.out.base.trans (HB.out.mono H.out.base.size))) (HN.out)).mono ?_
  rintro e u3 ⟨rv, vs3, rfl, hb, hown, hrr⟩
  obtain ⟨p3, c3, rfl⟩ := own_sl hown
  have hbb : Below u2.heap.size u2 u3 := hb
  have HR3 : Hid (Reps (NodeV w0 u3) vs3 (cs.map (.con f))) := Lib.hid (reps_map (rep' := NodeV w0 u3) (mk := .con f) (fun v x hv => hv) hrr)
  have HV3 : Hid (VRow w.heap.size u3 (.slice p3 cs.length c3) vs3) := Lib.hid (own_vrowN hown (HB.out.size) HR3.out)
  replace HV1 := Lib.hid (VRow.below HV1.out hbb)
  replace HR1 := Lib.hid (reps_keep hbb HR1.out)
  replace HV2 := Lib.hid (VRow.below HV2.out hbb)
  replace HR2 := Lib.hid (reps_keep hbb HR2.out)
  replace HB := Lib.hid (HB.out.trans (hbb.mono HB.out.size))
  replace EX := Lib.hid (ent_below EX.out hbb)
  clear hb hown hrr hbb
  refine hK.out _ _ (EX.out) (fun hHeld => ?_)
  clear hK K
  refine wpAnyH_ready (rs := [11]) (by kernel_rfl) (by simp) ?_
  refine AllReadyH.cons rfl (fun K hK => ?_) AllReadyH.nil
  go_simp
  refine hK.out _ _ (ent_alloc EX.out _) (fun hHeld => ?_)
  clear hK K
  refine wpAnyH_ready (rs := [12]) (by kernel_rfl) (by simp) ?_
  refine AllReadyH.cons rfl (fun K hK => ?_) AllReadyH.nil
  go_simp
  have hb4 : Below u3.heap.size u3 (u3.alloc (.cells #[.slice p1 2 c1, .slice p2 1 c2, .slice p3 cs.length c3] 120)) := (Below.refl _ _).alloc (Nat.le_refl _) _
  refine (listN H.out (HB.out.trans (hb4.mono HB.out.size)) _ _ _ [vs1, [o2], vs3] [([[100, 97, 116, 97], nm].map Nd.word), [Nd.names ps], (cs.map (.con f))] (.word [100, 97, 116, 97] :: .word nm :: .names ps :: cs.map (.con f)) (by simp)
    (grow_of (lo := w.heap.size) (ls := [vs1, [o2], vs3]) (wk := u3) (ss := [.slice p1 2 c1, .slice p2 1 c2, .slice p3 cs.length c3]) ⟨HV1.out, HV2.out, HV3.out, trivial⟩ HB.out.size (by simp) rfl rfl) ⟨reps_keep hb4 HR1.out, reps_keep hb4 HR2.out, reps_keep hb4 HR3.out, trivial⟩ HS.out (by simp)).mono ?_
  rintro e wz ⟨⟨rfl, hd⟩, hkp⟩
  refine hK.out _ _ (hkp.2 _ _ _ (ent_alloc EX.out _) (by decide) (by decide) (by decide)) (fun hHeld => ?_)
  clear hK K
  refine wpAnyH_done (by kernel_rfl) ?_ _
  go_wp2_with fail
  go_end0
  exact ⟨rfl, hd⟩
end Sw
end Go.Proofs.YtnhndamfbeiljaaGreatDoor

namespace Go.Proofs.YtnhndamfbeiljaaGreatDoor
open Go Go.RowKit
set_option linter.unusedVariables false
set_option linter.unusedSimpArgs false
namespace Sw
set_option maxHeartbeats 4000000 in
set_option maxRecDepth 100000 in
theorem defN {w0 : World} (f : Nat) {B : Nat} {w : World} {T : List UInt8} {S : List Nd} (u : Value) (x : Px.Def) (hx : DefG f w0 u x) (h : St w0 B w T S) (hs : Small T S (step (.defn f x))) :
    Calls Tryz.prog 32 #[.pointer (some ⟨B, 0, none⟩), u] w (Did w0 B T S (step (.defn f x))) := by
  obtain ⟨p, nm, ps, x⟩ := x
  obtain ⟨⟨nv, b0, b1, b2, b3, b4, b5, b6, rfl, h1, h2⟩, hok⟩ := hx
  obtain ⟨i0, i1, t2, i3, q4, n4, c4, q5, n5, c5, q6, n6, c6, e2⟩ := isExpr0 _ _ h2
  obtain ⟨rfl, rfl, rfl, rfl, rfl, rfl, rfl⟩ := agg7 e2
  obtain ⟨q1, k1, rfl⟩ := h1.len
  dsimp only at h1 h2 hok hs ⊢
  simp only [step] at hs ⊢
  have HXE : Hid (ExprG f w0 (.agg #[.int .i64 i0, .int .i64 i1, .string t2, .int .i64 i3, .slice q4 n4 c4, .slice q5 n5 c5, .slice q6 n6 c6]) x) := Lib.hid ⟨h2, hok⟩
  have H := Lib.hid h
  have HS := Lib.hid hs
  replace h1 : Hid (RowAt 1 StrIs w0 (.slice q1 ps.length k1) ps) := Lib.hid h1
  clear h hs h2 hok e2
  go_enter Tryz.func32, Tryz.ntmps32
  have EX := Lib.hid (ent_new w #[.int .i64 (p : Nat), .string ⟨nm.toArray⟩, .slice q1 ps.length k1, .int .i64 i0, .int .i64 i1, .string t2, .int .i64 i3, .slice q4 n4 c4, .slice q5 n5 c5, .slice q6 n6 c6] 49)
  have HB := Lib.hid (show Below w.heap.size w (w.alloc (.cells #[.int .i64 (p : Nat), .string ⟨nm.toArray⟩, .slice q1 ps.length k1, .int .i64 i0, .int .i64 i1, .string t2, .int .i64 i3, .slice q4 n4 c4, .slice q5 n5 c5, .slice q6 n6 c6] 49)) from (Below.refl _ _).alloc (Nat.le_refl _) _)
  go_upto_region 1 with fail
  generalize w.alloc (.cells #[.int .i64 (p : Nat), .string ⟨nm.toArray⟩, .slice q1 ps.length k1, .int .i64 i0, .int .i64 i1, .string t2, .int .i64 i3, .slice q4 n4 c4, .slice q5 n5 c5, .slice q6 n6 c6] 49) = wb at EX HB ⊢
  refine wp_region_held_drew (S := fun (u : World) => u.heap[w.heap.size]? = some (.cells #[.int .i64 (p : Nat), .string ⟨nm.toArray⟩, .slice q1 ps.length k1, .int .i64 i0, .int .i64 i1, .string t2, .int .i64 i3, .slice q4 n4 c4, .slice q5 n5 c5, .slice q6 n6 c6] 49 (0, 0))) (by kernel_rfl) (show wb.drew.heap[w.heap.size]? = some (.cells #[.int .i64 (p : Nat), .string ⟨nm.toArray⟩, .slice q1 ps.length k1, .int .i64 i0, .int .i64 i1, .string t2, .int .i64 i3, .slice q4 n4 c4, .slice q5 n5 c5, .slice q6 n6 c6] 49 (0, 0)) from EX.out) (fun hHeld => ?_)
  have HBd := Lib.hid (show Below w.heap.size w wb.drew from HB.out.drew)
  have EXd := Lib.hid (show wb.drew.heap[w.heap.size]? = some (.cells #[.int .i64 (p : Nat), .string ⟨nm.toArray⟩, .slice q1 ps.length k1, .int .i64 i0, .int .i64 i1, .string t2, .int .i64 i3, .slice q4 n4 c4, .slice q5 n5 c5, .slice q6 n6 c6] 49 (0, 0)) from EX.out)
  clear HB EX
  generalize wb.drew = wd at HBd EXd hHeld ⊢
  have HB := HBd
  have EX := EXd
  clear HBd EXd
  refine wpAnyH_take (i := 0) (v := .pointer (some ⟨B, 0, none⟩)) rfl (by kernel_rfl) (by kernel_rfl) (by kernel_rfl) (fun _ _ _ h => h) (Or.inl ⟨by rfl, fun w' hSw => by go_simp⟩) hHeld ?_
  refine wpAnyH_take (i := 1) (v := .pointer (some ⟨w.heap.size, 1, none⟩)) rfl (by kernel_rfl) (by kernel_rfl) (by kernel_rfl) (fun _ _ _ h => h) (Or.inl ⟨by rfl, fun w' hSw => by go_simp⟩) hHeld ?_
  refine wpAnyH_take (i := 2) (v := .string ⟨nm.toArray⟩) rfl (by kernel_rfl) (by kernel_rfl) (by kernel_rfl) (fun _ _ _ h => h) (Or.inl ⟨by rfl, fun w' hSw => by have hq : w'.heap[w.heap.size]? = some (.cells #[.int .i64 (p : Nat), .string ⟨nm.toArray⟩, .slice q1 ps.length k1, .int .i64 i0, .int .i64 i1, .string t2, .int .i64 i3, .slice q4 n4 c4, .slice q5 n5 c5, .slice q6 n6 c6] 49 (0, 0)) := hSw; have z1 := ent_cell hq 1 (.string ⟨nm.toArray⟩) rfl; go_simp⟩) hHeld ?_
  refine wpAnyH_take (i := 5) (v := .pointer (some ⟨w.heap.size, 2, none⟩)) rfl (by kernel_rfl) (by kernel_rfl) (by kernel_rfl) (fun _ _ _ h => h) (Or.inl ⟨by rfl, fun w' hSw => by go_simp⟩) hHeld ?_
  refine wpAnyH_take (i := 6) (v := .slice q1 ps.length k1) rfl (by kernel_rfl) (by kernel_rfl) (by kernel_rfl) (fun _ _ _ h => h) (Or.inl ⟨by rfl, fun w' hSw => by have hq : w'.heap[w.heap.size]? = some (.cells #[.int .i64 (p : Nat), .string ⟨nm.toArray⟩, .slice q1 ps.length k1, .int .i64 i0, .int .i64 i1, .string t2, .int .i64 i3, .slice q4 n4 c4, .slice q5 n5 c5, .slice q6 n6 c6] 49 (0, 0)) := hSw; have z2 := ent_cell hq 2 (.slice q1 ps.length k1) rfl; go_simp⟩) hHeld ?_
  refine wpAnyH_take (i := 8) (v := .pointer (some ⟨w.heap.size, 3, none⟩)) rfl (by kernel_rfl) (by kernel_rfl) (by kernel_rfl) (fun _ _ _ h => h) (Or.inl ⟨by rfl, fun w' hSw => by go_simp⟩) hHeld ?_
  refine wpAnyH_take (i := 9) (v := .agg #[.int .i64 i0, .int .i64 i1, .string t2, .int .i64 i3, .slice q4 n4 c4, .slice q5 n5 c5, .slice q6 n6 c6]) rfl (by kernel_rfl) (by kernel_rfl) (by kernel_rfl) (fun _ _ _ h => h) (Or.inl ⟨by rfl, fun w' hSw => by have hq : w'.heap[w.heap.size]? = some (.cells #[.int .i64 (p : Nat), .string ⟨nm.toArray⟩, .slice q1 ps.length k1, .int .i64 i0, .int .i64 i1, .string t2, .int .i64 i3, .slice q4 n4 c4, .slice q5 n5 c5, .slice q6 n6 c6] 49 (0, 0)) := hSw; have z3 := ent_cell hq 3 (.int .i64 i0) rfl; have z4 := ent_cell hq 4 (.int .i64 i1) rfl; have z5 := ent_cell hq 5 (.string t2) rfl; have z6 := ent_cell hq 6 (.int .i64 i3) rfl; have z7 := ent_cell hq 7 (.slice q4 n4 c4) rfl; have z8 := ent_cell hq 8 (.slice q5 n5 c5) rfl; have z9 := ent_cell hq 9 (.slice q6 n6 c6) rfl; go_simp⟩) hHeld ?_
  try simp only [Act.put, List.getElem_toArray, List.getElem_cons_succ, List.getElem_cons_zero, List.setIfInBounds_toArray, List.set_cons_zero, List.set_cons_succ]
  refine wpAnyH_ready (rs := [3]) (by kernel_rfl) (by simp) ?_
  refine AllReadyH.cons rfl (fun K hK => ?_) AllReadyH.nil
  go_simp
  have hr0 := row_made wd [[100, 101, 102], nm] (by simp)
  have hb0 : Below wd.heap.size wd (wd.alloc (.cells ([[100, 101, 102], nm].map fun s => Value.string ⟨s.toArray⟩).toArray 9)) := (Below.refl _ _).alloc (Nat.le_refl _) _
  have HR0 := Lib.hid hr0
  have HB0 := Lib.hid hb0
  clear hr0 hb0
  refine hK.out _ _ (ent_alloc EX.out _) (fun hHeld => ?_)
  clear hK K
  refine wpAnyH_ready (rs := [4]) (by kernel_rfl) (by simp) ?_
  refine AllReadyH.cons rfl (fun K hK => ?_) AllReadyH.nil
  go_simp
  refine (words_any _ [[100, 101, 102], nm] _ HR0.out (by simp)).mono ?_
  rintro e u1 ⟨rv, vs1, rfl, hb, hown, hrr⟩
  obtain ⟨p1, c1, rfl⟩ := own_sl hown
  have hbb : Below wd.heap.size wd u1 := HB0.out.trans (hb.mono HB0.out.size)
  have HR1 : Hid (Reps (NodeV w0 u1) vs1 ([[100, 101, 102], nm].map Nd.word)) := Lib.hid (reps_map (rep' := NodeV w0 u1) (mk := .word) (fun v x hv => hv) hrr)
  have HV1 : Hid (VRow w.heap.size u1 (.slice p1 2 c1) vs1) := Lib.hid (own_vrowN hown (by have := HB.out.size; have := HB0.out.size; omega) HR1.out)
  replace HB := Lib.hid (HB.out.trans (hbb.mono HB.out.size))
  replace EX := Lib.hid (ent_below EX.out hbb)
  clear hb hown hrr hbb
  refine hK.out _ _ (EX.out) (fun hHeld => ?_)
  clear hK K
  refine wpAnyH_ready (rs := [7]) (by kernel_rfl) (by simp) ?_
  refine AllReadyH.cons rfl (fun K hK => ?_) AllReadyH.nil
  go_simp
  refine (names_any q1 ps.length k1 ps w0 u1 (h1.out)).mono ?_
  rintro e u2 ⟨rv, o2, rfl, hb, hown, hrr⟩
  obtain ⟨p2, c2, rfl⟩ := own_sl hown
  have hbb : Below u1.heap.size u1 u2 := hb
  have HR2 : Hid (Reps (NodeV w0 u2) [o2] [Nd.names ps]) := Lib.hid (⟨hrr, trivial⟩)
  have HV2 : Hid (VRow w.heap.size u2 (.slice p2 1 c2) [o2]) := Lib.hid (own_vrowN hown (HB.out.size) HR2.out)
  replace HV1 := Lib.hid (VRow.below HV1.out hbb)
  replace HR1 := Lib.hid (reps_keep hbb HR1.out)
  replace HB := Lib.hid (HB.out.trans (hbb.mono HB.out.size))
  replace EX := Lib.hid (ent_below EX.out hbb)
  clear hb hown hrr hbb
  refine hK.out _ _ (EX.out) (fun hHeld => ?_)
  clear hK K
  refine wpAnyH_ready (rs := [10]) (by kernel_rfl) (by simp) ?_
  refine AllReadyH.cons rfl (fun K hK => ?_) AllReadyH.nil
  go_simp
  refine (oneExpr_any (ExprG f w0) (isExpr) (.agg #[.int .i64 i0, .int .i64 i1, .string t2, .int .i64 i3, .slice q4 n4 c4, .slice q5 n5 c5, .slice q6 n6 c6]) (x) 34 u2 (HXE.out)).mono ?_
  rintro e u3 ⟨rv, o3, rfl, hb, hown, hrr⟩
  obtain ⟨p3, c3, rfl⟩ := own_sl hown
  have hbb : Below u2.heap.size u2 u3 := hb
  have HR3 : Hid (Reps (NodeV w0 u3) [o3] [.expr f x]) := Lib.hid (⟨hrr, trivial⟩)
  have HV3 : Hid (VRow w.heap.size u3 (.slice p3 1 c3) [o3]) := Lib.hid (own_vrowN hown (HB.out.size) HR3.out)
  replace HV1 := Lib.hid (VRow.below HV1.out hbb)
  replace HR1 := Lib.hid (reps_keep hbb HR1.out)
  replace HV2 := Lib.hid (VRow.below HV2.out hbb)
  replace HR2 := Lib.hid (reps_keep hbb HR2.out)
  replace HB := Lib.hid (HB.out.trans (hbb.mono HB.out.size))
  replace EX := Lib.hid (ent_below EX.out hbb)
  clear hb hown hrr hbb
  refine hK.out _ _ (EX.out) (fun hHeld => ?_)
  clear hK K
  refine wpAnyH_ready (rs := [11]) (by kernel_rfl) (by simp) ?_
  refine AllReadyH.cons rfl (fun K hK => ?_) AllReadyH.nil
  go_simp
  refine hK.out _ _ (ent_alloc EX.out _) (fun hHeld => ?_)
  clear hK K
  refine wpAnyH_ready (rs := [12]) (by kernel_rfl) (by simp) ?_
  refine AllReadyH.cons rfl (fun K hK => ?_) AllReadyH.nil
  go_simp
  have hb4 : Below u3.heap.size u3 (u3.alloc (.cells #[.slice p1 2 c1, .slice p2 1 c2, .slice p3 1 c3] 120)) := (Below.refl _ _).alloc (Nat.le_refl _) _
  refine (listN H.out (HB.out.trans (hb4.mono HB.out.size)) _ _ _ [vs1, [o2], [o3]] [([[100, 101, 102], nm].map Nd.word), [Nd.names ps], [.expr f x]] ([.word [100, 101, 102], .word nm, .names ps, .expr f x]) (by simp)
    (grow_of (lo := w.heap.size) (ls := [vs1, [o2], [o3]]) (wk := u3) (ss := [.slice p1 2 c1, .slice p2 1 c2, .slice p3 1 c3]) ⟨HV1.out, HV2.out, HV3.out, trivial⟩ HB.out.size (by simp) rfl rfl) ⟨reps_keep hb4 HR1.out, reps_keep hb4 HR2.out, reps_keep hb4 HR3.out, trivial⟩ HS.out (by simp)).mono ?_
  rintro e wz ⟨⟨rfl, hd⟩, hkp⟩
  refine hK.out _ _ (hkp.2 _ _ _ (ent_alloc EX.out _) (by decide) (by decide) (by decide)) (fun hHeld => ?_)
  clear hK K
  refine wpAnyH_done (by kernel_rfl) ?_ _
  go_wp2_with fail
  go_end0
  exact ⟨rfl, hd⟩
end Sw
end Go.Proofs.YtnhndamfbeiljaaGreatDoor

namespace Go.Proofs.YtnhndamfbeiljaaGreatDoor
open Go Go.RowKit
set_option linter.unusedVariables false
set_option linter.unusedSimpArgs false
namespace Sw
set_option maxHeartbeats 4000000 in
set_option maxRecDepth 100000 in
theorem treeN {w0 : World} (htab : Lib.TabIs Tryz.prog w0 "internal/strconv.uint64pow10" .u64 Lib.pow10Tab) (f : Nat) {B : Nat} {w : World} {T : List UInt8} {S : List Nd} (u : Value) (x : Tr) (hx : TreeAt f w0 u x) (h : St w0 B w T S) (hs : Small T S (step (.tree f x))) :
    Calls Tryz.prog 39 #[.pointer (some ⟨B, 0, none⟩), u] w (Did w0 B T S (step (.tree f x))) := by
  cases f with
  | zero => exact hx.elim
  | succ f =>
    obtain ⟨nm, i, re, im, args⟩ := x
    obtain ⟨av, rfl, hi, hre, him, h1⟩ := hx
    obtain ⟨q, c, rfl⟩ := h1.len
    simp only [step] at hs ⊢
    have H := Lib.hid h
    replace h1 := Lib.hid h1
    have HI := Lib.hid hi
    have HRE := Lib.hid hre
    have HIM := Lib.hid him
    have HTAB := Lib.hid htab
    clear h hi hre him htab
    go_enter Tryz.func39, Tryz.ntmps39
    have EX := Lib.hid (ent_new w #[.string ⟨nm.toArray⟩, .int .i64 i, .int .i64 re, .int .i64 im, .slice q args.length c] 58)
    have HB := Lib.hid (show Below w.heap.size w (w.alloc (.cells #[.string ⟨nm.toArray⟩, .int .i64 i, .int .i64 re, .int .i64 im, .slice q args.length c] 58)) from (Below.refl _ _).alloc (Nat.le_refl _) _)
    go_upto_region 1 with fail
    generalize w.alloc (.cells #[.string ⟨nm.toArray⟩, .int .i64 i, .int .i64 re, .int .i64 im, .slice q args.length c] 58) = wb at EX HB ⊢
    have y0 := ent_cell EX.out 0 (.string ⟨nm.toArray⟩) rfl
    by_cases k0 : nm = []
    · subst k0
      rw [if_pos rfl] at hs ⊢
      have y1 := ent_cell EX.out 1 (.int .i64 i) rfl
      have HS := Lib.hid hs
      clear hs
      go_wp2_with fail
      refine (numberN (H.out.below HB.out) i HI.out.1 HI.out.2 HS.out HTAB.out).mono ?_
      rintro e w2 ⟨rfl, hd⟩
      go_wp2_with fail
      go_end0
      exact ⟨rfl, hd⟩
    · rw [if_neg k0] at hs ⊢
      have k0i : nm.isEmpty = false := by simpa using k0
      have k0j : (nm == []) = false := by simpa using k0
      by_cases k2 : nm = [99, 112, 120]
      · rw [if_pos k2] at hs ⊢
        subst k2
        have HS := Lib.hid hs
        clear hs k0 k0i k0j
        go_wp2_with fail
        refine wp_region_held_drew (S := fun (u : World) => u.heap[w.heap.size]? = some (.cells #[.string ⟨([99, 112, 120] : List UInt8).toArray⟩, .int .i64 i, .int .i64 re, .int .i64 im, .slice q args.length c] 58 (0, 0))) (by kernel_rfl) (show wb.drew.heap[w.heap.size]? = some (.cells #[.string ⟨([99, 112, 120] : List UInt8).toArray⟩, .int .i64 i, .int .i64 re, .int .i64 im, .slice q args.length c] 58 (0, 0)) from EX.out) (fun hHeld => ?_)
        have HBd := Lib.hid (show Below w.heap.size w wb.drew from HB.out.drew)
        have EXd := Lib.hid (show wb.drew.heap[w.heap.size]? = some (.cells #[.string ⟨([99, 112, 120] : List UInt8).toArray⟩, .int .i64 i, .int .i64 re, .int .i64 im, .slice q args.length c] 58 (0, 0)) from EX.out)
        clear HB EX
        generalize wb.drew = wd at HBd EXd hHeld ⊢
        have HB := HBd
        have EX := EXd
        clear HBd EXd
        refine wpAnyH_take (i := 0) (v := .pointer (some ⟨B, 0, none⟩)) rfl (by kernel_rfl) (by kernel_rfl) (by kernel_rfl) (fun _ _ _ h => h) (Or.inl ⟨by rfl, fun w' hSw => by go_simp⟩) hHeld ?_
        refine wpAnyH_take (i := 1) (v := .pointer (some ⟨w.heap.size, 2, none⟩)) rfl (by kernel_rfl) (by kernel_rfl) (by kernel_rfl) (fun _ _ _ h => h) (Or.inl ⟨by rfl, fun w' hSw => by go_simp⟩) hHeld ?_
        refine wpAnyH_take (i := 2) (v := .int .i64 re) rfl (by kernel_rfl) (by kernel_rfl) (by kernel_rfl) (fun _ _ _ h => h) (Or.inl ⟨by rfl, fun w' hSw => by have hq : w'.heap[w.heap.size]? = some (.cells #[.string ⟨([99, 112, 120] : List UInt8).toArray⟩, .int .i64 i, .int .i64 re, .int .i64 im, .slice q args.length c] 58 (0, 0)) := hSw; have z2 := ent_cell hq 2 (.int .i64 re) rfl; go_simp⟩) hHeld ?_
        refine wpAnyH_take (i := 4) (v := .pointer (some ⟨w.heap.size, 3, none⟩)) rfl (by kernel_rfl) (by kernel_rfl) (by kernel_rfl) (fun _ _ _ h => h) (Or.inl ⟨by rfl, fun w' hSw => by go_simp⟩) hHeld ?_
        refine wpAnyH_take (i := 5) (v := .int .i64 im) rfl (by kernel_rfl) (by kernel_rfl) (by kernel_rfl) (fun _ _ _ h => h) (Or.inl ⟨by rfl, fun w' hSw => by have hq : w'.heap[w.heap.size]? = some (.cells #[.string ⟨([99, 112, 120] : List UInt8).toArray⟩, .int .i64 i, .int .i64 re, .int .i64 im, .slice q args.length c] 58 (0, 0)) := hSw; have z3 := ent_cell hq 3 (.int .i64 im) rfl; go_simp⟩) hHeld ?_
        try simp only [Act.put, List.getElem_toArray, List.getElem_cons_succ, List.getElem_cons_zero, List.setIfInBounds_toArray, List.set_cons_zero, List.set_cons_succ]
        refine wpAnyH_ready (rs := [3]) (by kernel_rfl) (by simp) ?_
        refine AllReadyH.cons rfl (fun K hK => ?_) AllReadyH.nil
        go_simp
        refine (decimal_any re HRE.out.1 HRE.out.2 wd ((Lib.tabBelow_of_tabIs HTAB.out) _ (H.out.base.trans (HB.out.mono H.out.base.size)))).mono ?_
        rintro e d1 ⟨rfl, hb⟩
        replace HB := Lib.hid (HB.out.trans (hb.mono HB.out.size))
        replace EX := Lib.hid (ent_below EX.out hb)
        clear hb
        refine hK.out _ _ (EX.out) (fun hHeld => ?_)
        clear hK K
        refine wpAnyH_ready (rs := [6]) (by kernel_rfl) (by simp) ?_
        refine AllReadyH.cons rfl (fun K hK => ?_) AllReadyH.nil
        go_simp
        refine (decimal_any im HIM.out.1 HIM.out.2 d1 ((Lib.tabBelow_of_tabIs HTAB.out) _ (H.out.base.trans (HB.out.mono H.out.base.size)))).mono ?_
        rintro e d2 ⟨rfl, hb⟩
        replace HB := Lib.hid (HB.out.trans (hb.mono HB.out.size))
        replace EX := Lib.hid (ent_below EX.out hb)
        clear hb
        refine hK.out _ _ (EX.out) (fun hHeld => ?_)
        clear hK K
        refine wpAnyH_ready (rs := [7]) (by kernel_rfl) (by simp) ?_
        refine AllReadyH.cons rfl (fun K hK => ?_) AllReadyH.nil
        go_simp
        have hr0 := row_made d2 [[99, 112, 120], Lib.itoa re, Lib.itoa im] (by simp)
        have hb0 : Below d2.heap.size d2 (d2.alloc (.cells ([[99, 112, 120], Lib.itoa re, Lib.itoa im].map fun s => Value.string ⟨s.toArray⟩).toArray 9)) := (Below.refl _ _).alloc (Nat.le_refl _) _
        have HR0 := Lib.hid hr0
        have HB0 := Lib.hid hb0
        clear hr0 hb0
        refine hK.out _ _ (ent_alloc EX.out _) (fun hHeld => ?_)
        clear hK K
        refine wpAnyH_ready (rs := [8]) (by kernel_rfl) (by simp) ?_
        refine AllReadyH.cons rfl (fun K hK => ?_) AllReadyH.nil
        go_simp
        refine (words_any _ [[99, 112, 120], Lib.itoa re, Lib.itoa im] _ HR0.out (by simp)).mono ?_
        rintro e u1 ⟨rv, vs1, rfl, hb, hown, hrr⟩
        obtain ⟨p1, c1, rfl⟩ := own_sl hown
        have hbb : Below d2.heap.size d2 u1 := HB0.out.trans (hb.mono HB0.out.size)
        have HR1 : Hid (Reps (NodeV w0 u1) vs1 ([[99, 112, 120], Lib.itoa re, Lib.itoa im].map Nd.word)) := Lib.hid (reps_map (rep' := NodeV w0 u1) (mk := .word) (fun v x hv => hv) hrr)
        have HV1 : Hid (VRow w.heap.size u1 (.slice p1 3 c1) vs1) := Lib.hid (own_vrowN hown (by have := HB.out.size; have := HB0.out.size; omega) HR1.out)
        replace HB := Lib.hid (HB.out.trans (hbb.mono HB.out.size))
        replace EX := Lib.hid (ent_below EX.out hbb)
        clear hb hown hrr hbb
        refine hK.out _ _ (EX.out) (fun hHeld => ?_)
        clear hK K
        refine wpAnyH_ready (rs := [9]) (by kernel_rfl) (by simp) ?_
        refine AllReadyH.cons rfl (fun K hK => ?_) AllReadyH.nil
        go_simp
        refine hK.out _ _ (ent_alloc EX.out _) (fun hHeld => ?_)
        clear hK K
        refine wpAnyH_ready (rs := [10]) (by kernel_rfl) (by simp) ?_
        refine AllReadyH.cons rfl (fun K hK => ?_) AllReadyH.nil
        go_simp
        have hb4 : Below u1.heap.size u1 (u1.alloc (.cells #[.slice p1 3 c1] 120)) := (Below.refl _ _).alloc (Nat.le_refl _) _
        refine (listN H.out (HB.out.trans (hb4.mono HB.out.size)) _ _ _ [vs1] [([[99, 112, 120], Lib.itoa re, Lib.itoa im].map Nd.word)] ([.word [99, 112, 120], .word (Lib.itoa re), .word (Lib.itoa im)]) (by simp)
          (grow_of (lo := w.heap.size) (ls := [vs1]) (wk := u1) (ss := [.slice p1 3 c1]) ⟨HV1.out, trivial⟩ HB.out.size (by simp) rfl rfl) ⟨reps_keep hb4 HR1.out, trivial⟩ HS.out (by simp)).mono ?_
        rintro e wz ⟨⟨rfl, hd⟩, hkp⟩
        refine hK.out _ _ (hkp.2 _ _ _ (ent_alloc EX.out _) (by decide) (by decide) (by decide)) (fun hHeld => ?_)
        clear hK K
        refine wpAnyH_done (by kernel_rfl) ?_ _
        go_wp2_with fail
        go_end0
        exact ⟨rfl, hd⟩
      · rw [if_neg k2] at hs ⊢
        have k2i : (nm == [99, 112, 120]) = false := by simpa using k2
        have y4 := ent_cell EX.out 4 (.slice q args.length c) rfl
        have HS := Lib.hid hs
        clear hs
        go_wp2_with fail
        refine (namedTree_any (TreeAt f w0) isTree (.tree f) 39 (fun _ _ _ h => h) (H.out.below HB.out) nm q args.length c args (row_below h1.out (H.out.base.trans (HB.out.mono H.out.base.size))) HS.out).mono ?_
        rintro e w2 ⟨rfl, hd⟩
        go_wp2_with fail
        go_end0
        exact ⟨rfl, hd⟩
end Sw
end Go.Proofs.YtnhndamfbeiljaaGreatDoor
