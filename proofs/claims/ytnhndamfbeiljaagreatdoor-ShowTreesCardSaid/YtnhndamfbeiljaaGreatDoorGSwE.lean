/-
  Several texts in one: WFnE0, WFnE6, WFnEd.
-/
import Derived.Test.YtnhndamfbeiljaaGreatDoorGSwM
import Derived.Deep.RegionHeld3
namespace Go.Proofs.YtnhndamfbeiljaaGreatDoor
open Go Go.RowKit
set_option linter.unusedVariables false
set_option linter.unusedSimpArgs false
namespace Sw
set_option maxHeartbeats 4000000 in
set_option maxRecDepth 100000 in
theorem expr0N {w0 : World} (htab : Lib.TabIs Tryz.prog w0 "internal/strconv.uint64pow10" .u64 Lib.pow10Tab) (f : Nat) {B : Nat} {w : World} {T : List UInt8} {S : List Nd} (p : Nat) (nm : List UInt8) (i : Int) (ns : List (List UInt8)) (xs : List Px.Expr) (al : List (Px.Pat × Px.Expr)) (q4 q5 q6 : Option Addr) (c4 c5 c6 : Nat)
    (h4 : RowAt 1 StrIs w0 (.slice q4 ns.length c4) ns) (h5 : RowAt 7 (ExprG f w0) w0 (.slice q5 xs.length c5) xs) (h6 : RowAt 12 (AltG f w0) w0 (.slice q6 al.length c6) al) (h : St w0 B w T S) (hi : I64 i) (hs : Small T S ((Lib.itoa i, []))) :
    Calls Tryz.prog 34 #[.pointer (some ⟨B, 0, none⟩), .agg #[.int .i64 ((0 : Nat) : Int), .int .i64 (p : Nat), .string ⟨nm.toArray⟩, .int .i64 i, .slice q4 ns.length c4, .slice q5 xs.length c5, .slice q6 al.length c6]] w (Did w0 B T S ((Lib.itoa i, []))) := by
  have H := Lib.hid h
  have HS := Lib.hid hs
  replace h4 := Lib.hid h4
  replace h5 := Lib.hid h5
  replace h6 := Lib.hid h6
  have HTAB := Lib.hid htab
  have HI := Lib.hid hi
  clear hi
  clear h htab hs
  go_enter Tryz.func34, Tryz.ntmps34
  have EX := Lib.hid (ent_new w #[.int .i64 ((0 : Nat) : Int), .int .i64 (p : Nat), .string ⟨nm.toArray⟩, .int .i64 i, .slice q4 ns.length c4, .slice q5 xs.length c5, .slice q6 al.length c6] 47)
  have HB := Lib.hid (show Below w.heap.size w (w.alloc (.cells #[.int .i64 ((0 : Nat) : Int), .int .i64 (p : Nat), .string ⟨nm.toArray⟩, .int .i64 i, .slice q4 ns.length c4, .slice q5 xs.length c5, .slice q6 al.length c6] 47)) from (Below.refl _ _).alloc (Nat.le_refl _) _)
  go_upto_region 1 with fail
  generalize w.alloc (.cells #[.int .i64 ((0 : Nat) : Int), .int .i64 (p : Nat), .string ⟨nm.toArray⟩, .int .i64 i, .slice q4 ns.length c4, .slice q5 xs.length c5, .slice q6 al.length c6] 47) = wb at EX HB ⊢
  have y0 := ent_cell EX.out 0 (.int .i64 ((0 : Nat) : Int)) rfl
  have y1 := ent_cell EX.out 1 (.int .i64 (p : Nat)) rfl
  have y2 := ent_cell EX.out 2 (.string ⟨nm.toArray⟩) rfl
  have y3 := ent_cell EX.out 3 (.int .i64 i) rfl
  have y4 := ent_cell EX.out 4 (.slice q4 ns.length c4) rfl
  have y5 := ent_cell EX.out 5 (.slice q5 xs.length c5) rfl
  have y6 := ent_cell EX.out 6 (.slice q6 al.length c6) rfl
  go_wp2_with fail
  refine (numberN (H.out.below HB.out) i HI.out.1 HI.out.2 HS.out HTAB.out).mono ?_
  rintro e w2 ⟨rfl, hd⟩
  go_wp2_with fail
  go_end0
  exact ⟨rfl, hd⟩
set_option maxHeartbeats 4000000 in
set_option maxRecDepth 100000 in
theorem expr8N {w0 : World} (htab : Lib.TabIs Tryz.prog w0 "internal/strconv.uint64pow10" .u64 Lib.pow10Tab) (f : Nat) {B : Nat} {w : World} {T : List UInt8} {S : List Nd} (p : Nat) (nm : List UInt8) (i : Int) (ns : List (List UInt8)) (xs : List Px.Expr) (al : List (Px.Pat × Px.Expr)) (q4 q5 q6 : Option Addr) (c4 c5 c6 : Nat)
    (h4 : RowAt 1 StrIs w0 (.slice q4 ns.length c4) ns) (h5 : RowAt 7 (ExprG f w0) w0 (.slice q5 xs.length c5) xs) (h6 : RowAt 12 (AltG f w0) w0 (.slice q6 al.length c6) al) (h : St w0 B w T S) (hs : Small T S (([102, 97, 105, 108], []))) :
    Calls Tryz.prog 34 #[.pointer (some ⟨B, 0, none⟩), .agg #[.int .i64 ((8 : Nat) : Int), .int .i64 (p : Nat), .string ⟨nm.toArray⟩, .int .i64 i, .slice q4 ns.length c4, .slice q5 xs.length c5, .slice q6 al.length c6]] w (Did w0 B T S (([102, 97, 105, 108], []))) := by
  have H := Lib.hid h
  have HS := Lib.hid hs
  replace h4 := Lib.hid h4
  replace h5 := Lib.hid h5
  replace h6 := Lib.hid h6
  have HTAB := Lib.hid htab
  clear h htab hs
  go_enter Tryz.func34, Tryz.ntmps34
  have EX := Lib.hid (ent_new w #[.int .i64 ((8 : Nat) : Int), .int .i64 (p : Nat), .string ⟨nm.toArray⟩, .int .i64 i, .slice q4 ns.length c4, .slice q5 xs.length c5, .slice q6 al.length c6] 47)
  have HB := Lib.hid (show Below w.heap.size w (w.alloc (.cells #[.int .i64 ((8 : Nat) : Int), .int .i64 (p : Nat), .string ⟨nm.toArray⟩, .int .i64 i, .slice q4 ns.length c4, .slice q5 xs.length c5, .slice q6 al.length c6] 47)) from (Below.refl _ _).alloc (Nat.le_refl _) _)
  go_upto_region 1 with fail
  generalize w.alloc (.cells #[.int .i64 ((8 : Nat) : Int), .int .i64 (p : Nat), .string ⟨nm.toArray⟩, .int .i64 i, .slice q4 ns.length c4, .slice q5 xs.length c5, .slice q6 al.length c6] 47) = wb at EX HB ⊢
  have y0 := ent_cell EX.out 0 (.int .i64 ((8 : Nat) : Int)) rfl
  have y1 := ent_cell EX.out 1 (.int .i64 (p : Nat)) rfl
  have y2 := ent_cell EX.out 2 (.string ⟨nm.toArray⟩) rfl
  have y3 := ent_cell EX.out 3 (.int .i64 i) rfl
  have y4 := ent_cell EX.out 4 (.slice q4 ns.length c4) rfl
  have y5 := ent_cell EX.out 5 (.slice q5 xs.length c5) rfl
  have y6 := ent_cell EX.out 6 (.slice q6 al.length c6) rfl
  go_wp2_with fail
  refine (wordN (H.out.below HB.out) [102, 97, 105, 108] HS.out).mono ?_
  rintro e w2 ⟨rfl, hd⟩
  go_wp2_with fail
  go_end0
  exact ⟨rfl, hd⟩
end Sw
end Go.Proofs.YtnhndamfbeiljaaGreatDoor

namespace Go.Proofs.YtnhndamfbeiljaaGreatDoor
open Go Go.RowKit
set_option linter.unusedVariables false
set_option linter.unusedSimpArgs false
namespace Sw
set_option maxHeartbeats 4000000 in
set_option maxRecDepth 100000 in
theorem expr6N {w0 : World} (htab : Lib.TabIs Tryz.prog w0 "internal/strconv.uint64pow10" .u64 Lib.pow10Tab) (f : Nat) {B : Nat} {w : World} {T : List UInt8} {S : List Nd} (p : Nat) (nm : List UInt8) (i : Int) (ns : List (List UInt8)) (xs : List Px.Expr) (al : List (Px.Pat × Px.Expr)) (q4 q5 q6 : Option Addr) (c4 c5 c6 : Nat)
    (h4 : RowAt 1 StrIs w0 (.slice q4 ns.length c4) ns) (h5 : RowAt 7 (ExprG f w0) w0 (.slice q5 xs.length c5) xs) (h6 : RowAt 12 (AltG f w0) w0 (.slice q6 al.length c6) al) (h : St w0 B w T S) (hs : Small T S (([40], weave (xs.map (.expr f))))) :
    Calls Tryz.prog 34 #[.pointer (some ⟨B, 0, none⟩), .agg #[.int .i64 ((6 : Nat) : Int), .int .i64 (p : Nat), .string ⟨nm.toArray⟩, .int .i64 i, .slice q4 ns.length c4, .slice q5 xs.length c5, .slice q6 al.length c6]] w (Did w0 B T S (([40], weave (xs.map (.expr f))))) := by
  have H := Lib.hid h
  have HS := Lib.hid hs
  replace h4 := Lib.hid h4
  replace h5 := Lib.hid h5
  replace h6 := Lib.hid h6
  have HTAB := Lib.hid htab
  have HN : Hid (xs.length ≤ 1000000) := Lib.hid (by have := hs.2; have h2 := weave_len (xs.map (.expr f)); simp only [List.length_append, List.length_cons, List.length_map, List.length_nil] at this h2; omega)
  clear h htab hs
  go_enter Tryz.func34, Tryz.ntmps34
  have EX := Lib.hid (ent_new w #[.int .i64 ((6 : Nat) : Int), .int .i64 (p : Nat), .string ⟨nm.toArray⟩, .int .i64 i, .slice q4 ns.length c4, .slice q5 xs.length c5, .slice q6 al.length c6] 47)
  have HB := Lib.hid (show Below w.heap.size w (w.alloc (.cells #[.int .i64 ((6 : Nat) : Int), .int .i64 (p : Nat), .string ⟨nm.toArray⟩, .int .i64 i, .slice q4 ns.length c4, .slice q5 xs.length c5, .slice q6 al.length c6] 47)) from (Below.refl _ _).alloc (Nat.le_refl _) _)
  go_upto_region 1 with fail
  generalize w.alloc (.cells #[.int .i64 ((6 : Nat) : Int), .int .i64 (p : Nat), .string ⟨nm.toArray⟩, .int .i64 i, .slice q4 ns.length c4, .slice q5 xs.length c5, .slice q6 al.length c6] 47) = wb at EX HB ⊢
  have y0 := ent_cell EX.out 0 (.int .i64 ((6 : Nat) : Int)) rfl
  have y1 := ent_cell EX.out 1 (.int .i64 (p : Nat)) rfl
  have y2 := ent_cell EX.out 2 (.string ⟨nm.toArray⟩) rfl
  have y3 := ent_cell EX.out 3 (.int .i64 i) rfl
  have y4 := ent_cell EX.out 4 (.slice q4 ns.length c4) rfl
  have y5 := ent_cell EX.out 5 (.slice q5 xs.length c5) rfl
  have y6 := ent_cell EX.out 6 (.slice q6 al.length c6) rfl
  go_wp2_with fail
  refine (allExpr_any (ExprG f w0) (isExpr) (.slice q5 xs.length c5) xs 34 wb (row_below h5.out (H.out.base.trans (HB.out.mono H.out.base.size))) (HN.out)).mono ?_
  rintro e u1 ⟨rv, vs1, rfl, hb, hown, hrr⟩
  obtain ⟨p1, c1, rfl⟩ := own_sl hown
  have hbb : Below wb.heap.size wb u1 := hb
  have HR1 : Hid (Reps (NodeV w0 u1) vs1 (xs.map (.expr f))) := Lib.hid (reps_map (rep' := NodeV w0 u1) (mk := .expr f) (fun v x hv => hv) hrr)
  have HV1 : Hid (VRow w.heap.size u1 (.slice p1 xs.length c1) vs1) := Lib.hid (own_vrowN hown (HB.out.size) HR1.out)
  replace HB := Lib.hid (HB.out.trans (hbb.mono HB.out.size))
  replace EX := Lib.hid (ent_below EX.out hbb)
  clear hb hown hrr hbb
  go_wp2_with fail
  have hb4 : Below u1.heap.size u1 (u1.alloc (.cells #[.slice p1 xs.length c1] 120)) := (Below.refl _ _).alloc (Nat.le_refl _) _
  refine (listN H.out (HB.out.trans (hb4.mono HB.out.size)) _ _ _ [vs1] [(xs.map (.expr f))] (xs.map (.expr f)) (by simp)
    (grow_of (lo := w.heap.size) (ls := [vs1]) (wk := u1) (ss := [.slice p1 xs.length c1]) ⟨HV1.out, trivial⟩ HB.out.size (by simp) rfl rfl) ⟨reps_keep hb4 HR1.out, trivial⟩ HS.out (by simp)).mono ?_
  rintro e wz ⟨⟨rfl, hd⟩, hkp⟩
  go_wp2_with fail
  go_end0
  exact ⟨rfl, hd⟩
end Sw
end Go.Proofs.YtnhndamfbeiljaaGreatDoor

namespace Go.Proofs.YtnhndamfbeiljaaGreatDoor
open Go Go.RowKit
set_option linter.unusedVariables false
set_option linter.unusedSimpArgs false
namespace Sw
set_option maxHeartbeats 4000000 in
set_option maxRecDepth 100000 in
theorem exprdN {w0 : World} (htab : Lib.TabIs Tryz.prog w0 "internal/strconv.uint64pow10" .u64 Lib.pow10Tab) (f : Nat) {B : Nat} {w : World} {T : List UInt8} {S : List Nd} (p : Nat) (nm : List UInt8) (i : Int) (ns : List (List UInt8)) (xs : List Px.Expr) (al : List (Px.Pat × Px.Expr)) (q4 q5 q6 : Option Addr) (c4 c5 c6 : Nat)
    (h4 : RowAt 1 StrIs w0 (.slice q4 ns.length c4) ns) (h5 : RowAt 7 (ExprG f w0) w0 (.slice q5 xs.length c5) xs) (h6 : RowAt 12 (AltG f w0) w0 (.slice q6 al.length c6) al) (h : St w0 B w T S) (k : Nat) (k0 : ¬ k = 0) (k3 : ¬ k = 3) (k4 : ¬ k = 4) (k5 : ¬ k = 5) (k6 : ¬ k = 6) (k8 : ¬ k = 8) (hs : Small T S (named nm (xs.map (.expr f)))) :
    Calls Tryz.prog 34 #[.pointer (some ⟨B, 0, none⟩), .agg #[.int .i64 (k : Nat), .int .i64 (p : Nat), .string ⟨nm.toArray⟩, .int .i64 i, .slice q4 ns.length c4, .slice q5 xs.length c5, .slice q6 al.length c6]] w (Did w0 B T S (named nm (xs.map (.expr f)))) := by
  have H := Lib.hid h
  have HS := Lib.hid hs
  replace h4 := Lib.hid h4
  replace h5 := Lib.hid h5
  replace h6 := Lib.hid h6
  have HTAB := Lib.hid htab
  have e0 : ((k : Int) == 0) = false := by simpa using (show ¬ (k : Int) = 0 by omega)
  have e3 : ((k : Int) == 3) = false := by simpa using (show ¬ (k : Int) = 3 by omega)
  have e4 : ((k : Int) == 4) = false := by simpa using (show ¬ (k : Int) = 4 by omega)
  have e5 : ((k : Int) == 5) = false := by simpa using (show ¬ (k : Int) = 5 by omega)
  have e6 : ((k : Int) == 6) = false := by simpa using (show ¬ (k : Int) = 6 by omega)
  have e8 : ((k : Int) == 8) = false := by simpa using (show ¬ (k : Int) = 8 by omega)
  clear k0 k3 k4 k5 k6 k8
  clear h htab hs
  go_enter Tryz.func34, Tryz.ntmps34
  have EX := Lib.hid (ent_new w #[.int .i64 (k : Nat), .int .i64 (p : Nat), .string ⟨nm.toArray⟩, .int .i64 i, .slice q4 ns.length c4, .slice q5 xs.length c5, .slice q6 al.length c6] 47)
  have HB := Lib.hid (show Below w.heap.size w (w.alloc (.cells #[.int .i64 (k : Nat), .int .i64 (p : Nat), .string ⟨nm.toArray⟩, .int .i64 i, .slice q4 ns.length c4, .slice q5 xs.length c5, .slice q6 al.length c6] 47)) from (Below.refl _ _).alloc (Nat.le_refl _) _)
  go_upto_region 1 with fail
  generalize w.alloc (.cells #[.int .i64 (k : Nat), .int .i64 (p : Nat), .string ⟨nm.toArray⟩, .int .i64 i, .slice q4 ns.length c4, .slice q5 xs.length c5, .slice q6 al.length c6] 47) = wb at EX HB ⊢
  have y0 := ent_cell EX.out 0 (.int .i64 (k : Nat)) rfl
  have y1 := ent_cell EX.out 1 (.int .i64 (p : Nat)) rfl
  have y2 := ent_cell EX.out 2 (.string ⟨nm.toArray⟩) rfl
  have y3 := ent_cell EX.out 3 (.int .i64 i) rfl
  have y4 := ent_cell EX.out 4 (.slice q4 ns.length c4) rfl
  have y5 := ent_cell EX.out 5 (.slice q5 xs.length c5) rfl
  have y6 := ent_cell EX.out 6 (.slice q6 al.length c6) rfl
  go_wp2_with fail
  refine (namedExpr_any (ExprG f w0) isExpr (.expr f) 34 (fun _ _ _ h => h) (H.out.below HB.out) nm q5 xs.length c5 xs (row_below h5.out (H.out.base.trans (HB.out.mono H.out.base.size))) HS.out).mono ?_
  rintro e w2 ⟨rfl, hd⟩
  go_wp2_with fail
  go_end0
  exact ⟨rfl, hd⟩
end Sw
end Go.Proofs.YtnhndamfbeiljaaGreatDoor
