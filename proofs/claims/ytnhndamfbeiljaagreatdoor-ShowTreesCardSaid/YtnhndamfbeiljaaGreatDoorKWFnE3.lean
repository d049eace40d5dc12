/-
  What writes a node: expr.
-/
import Derived.Test.YtnhndamfbeiljaaGreatDoorGSwM
import Derived.Deep.RegionHeld3
namespace Go.Proofs.YtnhndamfbeiljaaGreatDoor
open Go Go.RowKit
set_option linter.unusedVariables false
set_option linter.unusedSimpArgs false
namespace Sw
set_option maxHeartbeats 4000000 in
set_option maxRecDepth 100000 in
theorem expr3N {w0 : World} (htab : Lib.TabIs Tryz.prog w0 "internal/strconv.uint64pow10" .u64 Lib.pow10Tab) (f : Nat) {B : Nat} {w : World} {T : List UInt8} {S : List Nd} (p : Nat) (nm : List UInt8) (i : Int) (ns : List (List UInt8)) (xs : List Px.Expr) (al : List (Px.Pat × Px.Expr)) (q4 q5 q6 : Option Addr) (c4 c5 c6 : Nat)
    (h4 : RowAt 1 StrIs w0 (.slice q4 ns.length c4) ns) (h5 : RowAt 7 (ExprG f w0) w0 (.slice q5 xs.length c5) xs) (h6 : RowAt 12 (AltG f w0) w0 (.slice q6 al.length c6) al) (h : St w0 B w T S) (hs : Small T S (([40], weave (.word [102, 110] :: .names ns :: xs.map (.expr f))))) :
    Calls Tryz.prog 34 #[.pointer (some ⟨B, 0, none⟩), .agg #[.int .i64 ((3 : Nat) : Int), .int .i64 (p : Nat), .string ⟨nm.toArray⟩, .int .i64 i, .slice q4 ns.length c4, .slice q5 xs.length c5, .slice q6 al.length c6]] w (Did w0 B T S (([40], weave (.word [102, 110] :: .names ns :: xs.map (.expr f))))) := by
  have H := Lib.hid h
  have HS := Lib.hid hs
  replace h4 := Lib.hid h4
  replace h5 := Lib.hid h5
  replace h6 := Lib.hid h6
  have HTAB := Lib.hid htab
  have HN : Hid (xs.length ≤ 1000000) := Lib.hid (by have := hs.2; have h2 := weave_len (.word [102, 110] :: .names ns :: xs.map (.expr f)); simp only [List.length_append, List.length_cons, List.length_map, List.length_nil] at this h2; omega)
  clear h htab hs
  go_enter Tryz.func34, Tryz.ntmps34
  have EX := Lib.hid (ent_new w #[.int .i64 ((3 : Nat) : Int), .int .i64 (p : Nat), .string ⟨nm.toArray⟩, .int .i64 i, .slice q4 ns.length c4, .slice q5 xs.length c5, .slice q6 al.length c6] 47)
  have HB := Lib.hid (show Below w.heap.size w (w.alloc (.cells #[.int .i64 ((3 : Nat) : Int), .int .i64 (p : Nat), .string ⟨nm.toArray⟩, .int .i64 i, .slice q4 ns.length c4, .slice q5 xs.length c5, .slice q6 al.length c6] 47)) from (Below.refl _ _).alloc (Nat.le_refl _) _)
  go_upto_region 1 with fail
  generalize w.alloc (.cells #[.int .i64 ((3 : Nat) : Int), .int .i64 (p : Nat), .string ⟨nm.toArray⟩, .int .i64 i, .slice q4 ns.length c4, .slice q5 xs.length c5, .slice q6 al.length c6] 47) = wb at EX HB ⊢
  have y0 := ent_cell EX.out 0 (.int .i64 ((3 : Nat) : Int)) rfl
  have y1 := ent_cell EX.out 1 (.int .i64 (p : Nat)) rfl
  have y2 := ent_cell EX.out 2 (.string ⟨nm.toArray⟩) rfl
  have y3 := ent_cell EX.out 3 (.int .i64 i) rfl
  have y4 := ent_cell EX.out 4 (.slice q4 ns.length c4) rfl
  have y5 := ent_cell EX.out 5 (.slice q5 xs.length c5) rfl
  have y6 := ent_cell EX.out 6 (.slice q6 al.length c6) rfl
  go_wp2_with fail
  clear y0 y1 y2 y3 y4 y5 y6
  refine wp_region_held_drew (S := fun (u : World) => u.heap[w.heap.size]? = some (.cells #[.int .i64 ((3 : Nat) : Int), .int .i64 (p : Nat), .string ⟨nm.toArray⟩, .int .i64 i, .slice q4 ns.length c4, .slice q5 xs.length c5, .slice q6 al.length c6] 47 (0, 0))) (by kernel_rfl) (show wb.drew.heap[w.heap.size]? = some (.cells #[.int .i64 ((3 : Nat) : Int), .int .i64 (p : Nat), .string ⟨nm.toArray⟩, .int .i64 i, .slice q4 ns.length c4, .slice q5 xs.length c5, .slice q6 al.length c6] 47 (0, 0)) from EX.out) (fun hHeld => ?_)
  have HBd := Lib.hid (show Below w.heap.size w wb.drew from HB.out.drew)
  have EXd := Lib.hid (show wb.drew.heap[w.heap.size]? = some (.cells #[.int .i64 ((3 : Nat) : Int), .int .i64 (p : Nat), .string ⟨nm.toArray⟩, .int .i64 i, .slice q4 ns.length c4, .slice q5 xs.length c5, .slice q6 al.length c6] 47 (0, 0)) from EX.out)
  clear HB EX
  generalize wb.drew = wd at HBd EXd hHeld ⊢
  have HB := HBd
  have EX := EXd
  clear HBd EXd
  refine wpAnyH_take (i := 0) (v := .pointer (some ⟨B, 0, none⟩)) rfl (by kernel_rfl) (by kernel_rfl) (by kernel_rfl) (fun _ _ _ h => h) (Or.inl ⟨by rfl, fun w' hSw => by go_simp⟩) hHeld ?_
  refine wpAnyH_take (i := 3) (v := .pointer (some ⟨w.heap.size, 4, none⟩)) rfl (by kernel_rfl) (by kernel_rfl) (by kernel_rfl) (fun _ _ _ h => h) (Or.inl ⟨by rfl, fun w' hSw => by go_simp⟩) hHeld ?_
  refine wpAnyH_take (i := 4) (v := .slice q4 ns.length c4) rfl (by kernel_rfl) (by kernel_rfl) (by kernel_rfl) (fun _ _ _ h => h) (Or.inl ⟨by rfl, fun w' hSw => by have hq : w'.heap[w.heap.size]? = some (.cells #[.int .i64 ((3 : Nat) : Int), .int .i64 (p : Nat), .string ⟨nm.toArray⟩, .int .i64 i, .slice q4 ns.length c4, .slice q5 xs.length c5, .slice q6 al.length c6] 47 (0, 0)) := hSw; have z4 := ent_cell hq 4 (.slice q4 ns.length c4) rfl; go_simp⟩) hHeld ?_
  refine wpAnyH_take (i := 6) (v := .pointer (some ⟨w.heap.size, 5, none⟩)) rfl (by kernel_rfl) (by kernel_rfl) (by kernel_rfl) (fun _ _ _ h => h) (Or.inl ⟨by rfl, fun w' hSw => by go_simp⟩) hHeld ?_
  refine wpAnyH_take (i := 7) (v := .slice q5 xs.length c5) rfl (by kernel_rfl) (by kernel_rfl) (by kernel_rfl) (fun _ _ _ h => h) (Or.inl ⟨by rfl, fun w' hSw => by have hq : w'.heap[w.heap.size]? = some (.cells #[.int .i64 ((3 : Nat) : Int), .int .i64 (p : Nat), .string ⟨nm.toArray⟩, .int .i64 i, .slice q4 ns.length c4, .slice q5 xs.length c5, .slice q6 al.length c6] 47 (0, 0)) := hSw; have z5 := ent_cell hq 5 (.slice q5 xs.length c5) rfl; go_simp⟩) hHeld ?_
  try simp only [Act.put, List.getElem_toArray, List.getElem_cons_succ, List.getElem_cons_zero, List.setIfInBounds_toArray, List.set_cons_zero, List.set_cons_succ]
  refine wpAnyH_ready (rs := [1]) (by kernel_rfl) (by simp) ?_
  refine AllReadyH.cons rfl (fun K hK => ?_) AllReadyH.nil
  go_simp
  have hr0 := row_made wd [[102, 110]] (by simp)
  have hb0 : Below wd.heap.size wd (wd.alloc (.cells ([[102, 110]].map fun s => Value.string ⟨s.toArray⟩).toArray 9)) := (Below.refl _ _).alloc (Nat.le_refl _) _
  have HR0 := Lib.hid hr0
  have HB0 := Lib.hid hb0
  clear hr0 hb0
  refine hK.out _ _ (ent_alloc EX.out _) (fun hHeld => ?_)
  clear hK K
  refine wpAnyH_ready (rs := [2]) (by kernel_rfl) (by simp) ?_
  refine AllReadyH.cons rfl (fun K hK => ?_) AllReadyH.nil
  go_simp
  refine (words_any _ [[102, 110]] _ HR0.out (by simp)).mono ?_
  rintro e u1 ⟨rv, vs1, rfl, hb, hown, hrr⟩
  obtain ⟨p1, c1, rfl⟩ := own_sl hown
  have hbb : Below wd.heap.size wd u1 := HB0.out.trans (hb.mono HB0.out.size)
  have HR1 : Hid (Reps (NodeV w0 u1) vs1 ([[102, 110]].map Nd.word)) := Lib.hid (reps_map (rep' := NodeV w0 u1) (mk := .word) (fun v x hv => hv) hrr)
  have HV1 : Hid (VRow w.heap.size u1 (.slice p1 1 c1) vs1) := Lib.hid (own_vrowN hown (by have := HB.out.size; have := HB0.out.size; omega) HR1.out)
  replace HB := Lib.hid (HB.out.trans (hbb.mono HB.out.size))
  replace EX := Lib.hid (ent_below EX.out hbb)
  clear hb hown hrr hbb
  refine hK.out _ _ (EX.out) (fun hHeld => ?_)
  clear hK K
  refine wpAnyH_ready (rs := [5]) (by kernel_rfl) (by simp) ?_
  refine AllReadyH.cons rfl (fun K hK => ?_) AllReadyH.nil
  go_simp
  refine (names_any q4 ns.length c4 ns w0 u1 (h4.out)).mono ?_
  rintro e u2 ⟨rv, o2, rfl, hb, hown, hrr⟩
  obtain ⟨p2, c2, rfl⟩ := own_sl hown
  have hbb : Below u1.heap.size u1 u2 := hb
  have HR2 : Hid (Reps (NodeV w0 u2) [o2] [Nd.names ns]) := Lib.hid (⟨hrr, trivial⟩)
  have HV2 : Hid (VRow w.heap.size u2 (.slice p2 1 c2) [o2]) := Lib.hid (own_vrowN hown (HB.out.size) HR2.out)
  replace HV1 := Lib.hid (VRow.below HV1.out hbb)
  replace HR1 := Lib.hid (reps_keep hbb HR1.out)
  replace HB := Lib.hid (HB.out.trans (hbb.mono HB.out.size))
  replace EX := Lib.hid (ent_below EX.out hbb)
  clear hb hown hrr hbb
  refine hK.out _ _ (EX.out) (fun hHeld => ?_)
  clear hK K
  refine wpAnyH_ready (rs := [8]) (by kernel_rfl) (by simp) ?_
  refine AllReadyH.cons rfl (fun K hK => ?_) AllReadyH.nil
  go_simp
  refine (allExpr_any (ExprG f w0) (isExpr) (.slice q5 xs.length c5) xs 34 u2 (row_below h5.out (H.out.base.trans (HB.out.mono H.out.base.size))) (HN.out)).mono ?_
  rintro e u3 ⟨rv, vs3, rfl, hb, hown, hrr⟩
  obtain ⟨p3, c3, rfl⟩ := own_sl hown
  have hbb : Below u2.heap.size u2 u3 := hb
  have HR3 : Hid (Reps (NodeV w0 u3) vs3 (xs.map (.expr f))) := Lib.hid (reps_map (rep' := NodeV w0 u3) (mk := .expr f) (fun v x hv => hv) hrr)
  have HV3 : Hid (VRow w.heap.size u3 (.slice p3 xs.length c3) vs3) := Lib.hid (own_vrowN hown (HB.out.size) HR3.out)
  replace HV1 := Lib.hid (VRow.below HV1.out hbb)
  replace HR1 := Lib.hid (reps_keep hbb HR1.out)
  replace HV2 := Lib.hid (VRow.below HV2.out hbb)
  replace HR2 := Lib.hid (reps_keep hbb HR2.out)
  replace HB := Lib.hid (HB.out.trans (hbb.mono HB.out.size))
  replace EX := Lib.hid (ent_below EX.out hbb)
  clear hb hown hrr hbb
  refine hK.out _ _ (EX.out) (fun hHeld => ?_)
  clear hK K
  refine wpAnyH_ready (rs := [9]) (by kernel_rfl) (by simp) ?_
  refine AllReadyH.cons rfl (fun K hK => ?_) AllReadyH.nil
  go_simp
  refine hK.out _ _ (ent_alloc EX.out _) (fun hHeld => ?_)
  clear hK K
  refine wpAnyH_ready (rs := [10]) (by kernel_rfl) (by simp) ?_
  refine AllReadyH.cons rfl (fun K hK => ?_) AllReadyH.nil
  go_simp
  have hb4 : Below u3.heap.size u3 (u3.alloc (.cells #[.slice p1 1 c1, .slice p2 1 c2, .slice p3 xs.length c3] 120)) := (Below.refl _ _).alloc (Nat.le_refl _) _
  refine (listN H.out (HB.out.trans (hb4.mono HB.out.size)) _ _ _ [vs1, [o2], vs3] [([[102, 110]].map Nd.word), [Nd.names ns], (xs.map (.expr f))] (.word [102, 110] :: .names ns :: xs.map (.expr f)) (by simp)
    (grow_of (lo := w.heap.size) (ls := [vs1, [o2], vs3]) (wk := u3) (ss := [.slice p1 1 c1, .slice p2 1 c2, .slice p3 xs.length c3]) ⟨HV1.out, HV2.out, HV3.out, trivial⟩ HB.out.size (by simp) rfl rfl) ⟨reps_keep hb4 HR1.out, reps_keep hb4 HR2.out, reps_keep hb4 HR3.out, trivial⟩ HS.out (by simp)).mono ?_
  rintro e wz ⟨⟨rfl, hd⟩, hkp⟩
  refine hK.out _ _ (hkp.2 _ _ _ (ent_alloc EX.out _) (by decide) (by decide) (by decide)) (fun hHeld => ?_)
  clear hK K
  refine wpAnyH_done (by kernel_rfl) ?_ _
  go_wp2_with fail
  go_end0
  exact ⟨rfl, hd⟩
end Sw
end Go.Proofs.YtnhndamfbeiljaaGreatDoor
