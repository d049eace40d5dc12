/-
  What writes a node: expr.
-/
import Derived.Test.YtnhndamfbeiljaaGreatDoorGSwM
import Derived.Deep.RegionHeld3
namespace Go.Proofs.YtnhndamfbeiljaaGreatDoor
open Go Go.RowKit
set_option linter.unusedVariables false
set_option linter.unusedSimpArgs false
namespace Sw
theorem bound_any2 {w0 : World} (f : Nat) (a b d : Int) (t : ByteArray) (q4 q5 q6 : Option Addr) (c4 c5 n6 c6 : Nat) (ns : List (List UInt8)) (xs : List Px.Expr) (w : World) (hb0 : Below w0.heap.size w0 w) (h4 : RowAt 1 StrIs w0 (.slice q4 ns.length c4) ns) (h5 : RowAt 7 (ExprG f w0) w0 (.slice q5 xs.length c5) xs) (hn : ns.length ≤ 1000000) (hx : xs.length ≤ 1000000)
    (bnd : List (List UInt8 × Px.Expr)) (rest : List Px.Expr) (hbn : bnd = bindings ns xs) (hr : rest = xs.drop (lcount ns xs)) :
    Calls Tryz.prog 66 #[.agg #[.int .i64 a, .int .i64 b, .string t, .int .i64 d, .slice q4 ns.length c4, .slice q5 xs.length c5, .slice q6 n6 c6]] w fun e w' => ∃ p n c q m c', e = .returned (.tuple #[.slice p n c, .slice q m c']) ∧ Below w.heap.size w w' ∧
      RowK 142 8 (PairG f w0) w' (.slice p n c) bnd ∧ RowAt 7 (ExprG f w0) w0 (.slice q m c') rest := by
  subst hbn; subst hr
  exact (bound_any f a b d t q4 q5 q6 c4 c5 n6 c6 ns xs w hb0 h4 h5 hn hx).mono fun e w' ⟨p, c, q, c', h1, h2, h3, h4⟩ => ⟨p, _, c, q, _, c', h1, h2, h3, h4⟩
set_option maxHeartbeats 4000000 in
set_option maxRecDepth 100000 in
theorem expr4N {w0 : World} (htab : Lib.TabIs Tryz.prog w0 "internal/strconv.uint64pow10" .u64 Lib.pow10Tab) (f : Nat) {B : Nat} {w : World} {T : List UInt8} {S : List Nd} (p : Nat) (nm : List UInt8) (i : Int) (ns : List (List UInt8)) (xs : List Px.Expr) (al : List (Px.Pat × Px.Expr)) (q4 q5 q6 : Option Addr) (c4 c5 c6 : Nat)
    (h4 : RowAt 1 StrIs w0 (.slice q4 ns.length c4) ns) (h5 : RowAt 7 (ExprG f w0) w0 (.slice q5 xs.length c5) xs) (h6 : RowAt 12 (AltG f w0) w0 (.slice q6 al.length c6) al) (h : St w0 B w T S) (hl : ns.length ≤ 1000000 ∧ xs.length ≤ 1000000) (bnd : List (List UInt8 × Px.Expr)) (rest : List Px.Expr) (hbn : bnd = bindings ns xs) (hr : rest = xs.drop (lcount ns xs)) (hs : Small T S (([40], weave (.word [108, 101, 116] :: .pairs f bnd :: rest.map (.expr f))))) :
    Calls Tryz.prog 34 #[.pointer (some ⟨B, 0, none⟩), .agg #[.int .i64 ((4 : Nat) : Int), .int .i64 (p : Nat), .string ⟨nm.toArray⟩, .int .i64 i, .slice q4 ns.length c4, .slice q5 xs.length c5, .slice q6 al.length c6]] w (Did w0 B T S (([40], weave (.word [108, 101, 116] :: .pairs f bnd :: rest.map (.expr f))))) := by
  have H := Lib.hid h
  have HS := Lib.hid hs
  replace h4 := Lib.hid h4
  replace h5 := Lib.hid h5
  replace h6 := Lib.hid h6
  have HTAB := Lib.hid htab
  have HN : Hid (rest.length ≤ 1000000) := Lib.hid (by have := hs.2; have h2 := weave_len (.word [108, 101, 116] :: .pairs f bnd :: rest.map (.expr f)); simp only [List.length_append, List.length_cons, List.length_map, List.length_nil] at this h2; omega)
  have HL2 := Lib.hid hl
  have HBN := Lib.hid hbn
  have HRS := Lib.hid hr
  clear hl hbn hr
  clear h htab hs
  go_enter Tryz.func34, Tryz.ntmps34
  have EX := Lib.hid (ent_new w #[.int .i64 ((4 : Nat) : Int), .int .i64 (p : Nat), .string ⟨nm.toArray⟩, .int .i64 i, .slice q4 ns.length c4, .slice q5 xs.length c5, .slice q6 al.length c6] 47)
  have HB := Lib.hid (show Below w.heap.size w (w.alloc (.cells #[.int .i64 ((4 : Nat) : Int), .int .i64 (p : Nat), .string ⟨nm.toArray⟩, .int .i64 i, .slice q4 ns.length c4, .slice q5 xs.length c5, .slice q6 al.length c6] 47)) from (Below.refl _ _).alloc (Nat.le_refl _) _)
  go_upto_region 1 with fail
  generalize w.alloc (.cells #[.int .i64 ((4 : Nat) : Int), .int .i64 (p : Nat), .string ⟨nm.toArray⟩, .int .i64 i, .slice q4 ns.length c4, .slice q5 xs.length c5, .slice q6 al.length c6] 47) = wb at EX HB ⊢
  have y0 := ent_cell EX.out 0 (.int .i64 ((4 : Nat) : Int)) rfl
  have y1 := ent_cell EX.out 1 (.int .i64 (p : Nat)) rfl
  have y2 := ent_cell EX.out 2 (.string ⟨nm.toArray⟩) rfl
  have y3 := ent_cell EX.out 3 (.int .i64 i) rfl
  have y4 := ent_cell EX.out 4 (.slice q4 ns.length c4) rfl
  have y5 := ent_cell EX.out 5 (.slice q5 xs.length c5) rfl
  have y6 := ent_cell EX.out 6 (.slice q6 al.length c6) rfl
  go_wp2_with fail
  refine (bound_any2 f _ _ _ _ q4 q5 q6 c4 c5 _ c6 ns xs wb (H.out.base.trans (HB.out.mono H.out.base.size)) h4.out h5.out HL2.out.1 HL2.out.2 bnd rest HBN.out HRS.out).mono ?_
  rintro e wc ⟨pp, pn, pc, pq, pm, pd, rfl, hbc, hrk, hrd⟩
  have HRK := Lib.hid hrk
  have HRD := Lib.hid hrd
  replace HB := Lib.hid (HB.out.trans (hbc.mono HB.out.size))
  replace EX := Lib.hid (ent_below EX.out hbc)
  clear hbc hrk hrd y0 y1 y2 y3 y4 y5 y6
  go_wp2_with fail
  have hr0 := row_made wc [[108, 101, 116]] (by simp)
  have hb0 : Below wc.heap.size wc (wc.alloc (.cells ([[108, 101, 116]].map fun s => Value.string ⟨s.toArray⟩).toArray 9)) := (Below.refl _ _).alloc (Nat.le_refl _) _
  have HR0 := Lib.hid hr0
  have HB0 := Lib.hid hb0
  clear hr0 hb0
  refine (words_any _ [[108, 101, 116]] _ HR0.out (by simp)).mono ?_
  rintro e u1 ⟨rv, vs1, rfl, hb, hown, hrr⟩
  obtain ⟨p1, c1, rfl⟩ := own_sl hown
  have hbb : Below wc.heap.size wc u1 := HB0.out.trans (hb.mono HB0.out.size)
  have HR1 : Hid (Reps (NodeV w0 u1) vs1 ([[108, 101, 116]].map Nd.word)) := Lib.hid (reps_map (rep' := NodeV w0 u1) (mk := .word) (fun v x hv => hv) hrr)
  have HV1 : Hid (VRow w.heap.size u1 (.slice p1 1 c1) vs1) := Lib.hid (own_vrowN hown (by have := HB.out.size; have := HB0.out.size; omega) HR1.out)
  replace HB := Lib.hid (HB.out.trans (hbb.mono HB.out.size))
  replace EX := Lib.hid (ent_below EX.out hbb)
  have HUC := Lib.hid hbb
  clear hb hown hrr hbb
  go_wp2_with fail
  refine (listedBind_any (fun u q => RowK 142 8 (PairG f w0) u q bnd) pp pn pc 68 u1 (fun w9 hk9 => (HRK.out.keep (Keep.below HUC.out) (by decide) (by decide) (by decide)).keep hk9 (by decide) (by decide) (by decide))).mono ?_
  rintro e u2 ⟨rv, o2, rfl, hb, hown, hrr⟩
  obtain ⟨p2, c2, rfl⟩ := own_sl hown
  have hbb : Below u1.heap.size u1 u2 := hb
  have HR2 : Hid (Reps (NodeV w0 u2) [o2] [Nd.pairs f bnd]) := Lib.hid (⟨hrr, trivial⟩)
  have HV2 : Hid (VRow w.heap.size u2 (.slice p2 1 c2) [o2]) := Lib.hid (own_vrowN hown (HB.out.size) HR2.out)
  replace HV1 := Lib.hid (VRow.below HV1.out hbb)
  replace HR1 := Lib.hid (reps_keep hbb HR1.out)
  replace HB := Lib.hid (HB.out.trans (hbb.mono HB.out.size))
  replace EX := Lib.hid (ent_below EX.out hbb)
  clear hb hown hrr hbb
  go_wp2_with fail
  refine (allExpr_any (ExprG f w0) (isExpr) (.slice pq pm pd) rest 34 u2 (row_below HRD.out (H.out.base.trans (HB.out.mono H.out.base.size))) (HN.out)).mono ?_
  rintro e u3 ⟨rv, vs3, rfl, hb, hown, hrr⟩
  obtain ⟨p3, c3, rfl⟩ := own_sl hown
  have hbb : Below u2.heap.size u2 u3 := hb
  have HR3 : Hid (Reps (NodeV w0 u3) vs3 (rest.map (.expr f))) := Lib.hid (reps_map (rep' := NodeV w0 u3) (mk := .expr f) (fun v x hv => hv) hrr)
  have HV3 : Hid (VRow w.heap.size u3 (.slice p3 rest.length c3) vs3) := Lib.hid (own_vrowN hown (HB.out.size) HR3.out)
  replace HV1 := Lib.hid (VRow.below HV1.out hbb)
  replace HR1 := Lib.hid (reps_keep hbb HR1.out)
  replace HV2 := Lib.hid (VRow.below HV2.out hbb)
  replace HR2 := Lib.hid (reps_keep hbb HR2.out)
  replace HB := Lib.hid (HB.out.trans (hbb.mono HB.out.size))
  replace EX := Lib.hid (ent_below EX.out hbb)
  clear hb hown hrr hbb
  go_wp2_with fail
  have hb4 : Below u3.heap.size u3 (u3.alloc (.cells #[.slice p1 1 c1, .slice p2 1 c2, .slice p3 rest.length c3] 120)) := (Below.refl _ _).alloc (Nat.le_refl _) _
  refine (listN H.out (HB.out.trans (hb4.mono HB.out.size)) _ _ _ [vs1, [o2], vs3] [([[108, 101, 116]].map Nd.word), [Nd.pairs f bnd], (rest.map (.expr f))] (.word [108, 101, 116] :: .pairs f bnd :: rest.map (.expr f)) (by simp)
    (grow_of (lo := w.heap.size) (ls := [vs1, [o2], vs3]) (wk := u3) (ss := [.slice p1 1 c1, .slice p2 1 c2, .slice p3 rest.length c3]) ⟨HV1.out, HV2.out, HV3.out, trivial⟩ HB.out.size (by simp) rfl rfl) ⟨reps_keep hb4 HR1.out, reps_keep hb4 HR2.out, reps_keep hb4 HR3.out, trivial⟩ HS.out (by simp)).mono ?_
  rintro e wz ⟨⟨rfl, hd⟩, hkp⟩
  go_wp2_with fail
  go_end0
  exact ⟨rfl, hd⟩
end Sw
end Go.Proofs.YtnhndamfbeiljaaGreatDoor
