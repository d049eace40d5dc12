/-
  Several texts in one: WFnE6, WFnEd, WFnE, WClo, WText0, WTextExpr, WLives, WTextData, WTextDef, WTextPat, WTextTypeE.
-/
import Derived.Test.YtnhndamfbeiljaaGreatDoorT00
import Derived.Test.YtnhndamfbeiljaaGreatDoorT23
import Derived.Deep.RegionHeld3
import Derived.Test.YtnhndamfbeiljaaGreatDoorT22
import Derived.Deep.LoopGhost
import Derived.Test.YtnhndamfbeiljaaGreatDoorT16
import Derived.Lib.SlBytesConst
set_option linter.unusedVariables false
set_option linter.unusedSimpArgs false
set_option maxHeartbeats 4000000
set_option maxRecDepth 100000
namespace Go.Proofs.YtnhndamfbeiljaaGreatDoor
open Go Go.RowKit
open Go.Lib (hid)
open List renaming getElem_toArray → jR, getElem_cons_succ → jR0, getElem_cons_zero → jR1, setIfInBounds_toArray → jR2, set_cons_zero → jR3, set_cons_succ → jR4
namespace Sw
theorem expr6N {w0 : World} (htab : Lib.TabIs Tryz.prog w0 "internal/strconv.uint64pow10" .u64 Lib.pow10Tab) (f : Nat) {B : Nat} {w : World} {T : List UInt8} {S : List Nd} (p : Nat) (nm : List UInt8) (i : Int) (ns : List (List UInt8)) (xs : List Px.Expr) (al : List (Px.Pat × Px.Expr)) (q4 q5 q6 : Option Addr) (c4 c5 c6 : Nat)
 (h4 : jAI 1 jD8 w0 (.slice q4 ns.length c4) ns) (h5 : jAI 7 (jCB f w0) w0 (.slice q5 xs.length c5) xs) (h6 : jAI 12 (AltG f w0) w0 (.slice q6 al.length c6) al) (h : St w0 B w T S) (hs : Small T S (([40], jBV (xs.map (.expr f))))) :
 Calls Tryz.prog 34 #[.pointer (some ⟨B, 0, none⟩), .agg #[.int .i64 ((6 : Nat) : Int), .int .i64 (p : Nat), .string ⟨nm.toArray⟩, .int .i64 i, .slice q4 ns.length c4, .slice q5 xs.length c5, .slice q6 al.length c6]] w (Did w0 B T S (([40], jBV (xs.map (.expr f))))) := by
 have H := hid h; have HS := hid hs; replace h4 := hid h4; replace h5 := hid h5; replace h6 := hid h6; have HTAB := hid htab; have HN : Hid (xs.length <= 1000000) := hid (by have := hs.2; have h2 := jC (xs.map (.expr f)); simp only [List.length_append, List.length_cons, List.length_map, List.length_nil] at this h2; omega); clear h htab hs; go_enter Tryz.func34, Tryz.ntmps34; have EX := hid (jA3 w #[.int .i64 ((6 : Nat) : Int), .int .i64 (p : Nat), .string ⟨nm.toArray⟩, .int .i64 i, .slice q4 ns.length c4, .slice q5 xs.length c5, .slice q6 al.length c6] 47); have HB := hid (show Below w.heap.size w (w.alloc (.cells #[.int .i64 ((6 : Nat) : Int), .int .i64 (p : Nat), .string ⟨nm.toArray⟩, .int .i64 i, .slice q4 ns.length c4, .slice q5 xs.length c5, .slice q6 al.length c6] 47)) from (Below.refl _ _).alloc (Nat.le_refl _) _); go_upto_region 1 with fail
 generalize w.alloc (.cells #[.int .i64 ((6 : Nat) : Int), .int .i64 (p : Nat), .string ⟨nm.toArray⟩, .int .i64 i, .slice q4 ns.length c4, .slice q5 xs.length c5, .slice q6 al.length c6] 47) = wb at EX HB ⊢; have y0 := jA EX.out 0 (.int .i64 ((6 : Nat) : Int)) rfl; have y1 := jA EX.out 1 (.int .i64 (p : Nat)) rfl; have y2 := jA EX.out 2 (.string ⟨nm.toArray⟩) rfl; have y3 := jA EX.out 3 (.int .i64 i) rfl; have y4 := jA EX.out 4 (.slice q4 ns.length c4) rfl; have y5 := jA EX.out 5 (.slice q5 xs.length c5) rfl; have y6 := jA EX.out 6 (.slice q6 al.length c6) rfl; go_wp2_with fail; refine (jDG (jCB f w0) (jDT) (.slice q5 xs.length c5) xs 34 wb (jBQ h5.out (H.out.base.trans (HB.out.mono H.out.base.size))) (HN.out)).mono ?_; rintro e u1 ⟨rv, vs1, rfl, hb, hown, hrr⟩; obtain ⟨p1, c1, rfl⟩ := jAZ hown; have hbb : Below wb.heap.size wb u1 := hb; have HR1 : Hid (Reps (jAG w0 u1) vs1 (xs.map (.expr f))) := hid (jB5 (rep' := jAG w0 u1) (mk := .expr f) (fun v x hv => hv) hrr); have HV1 : Hid (VRow w.heap.size u1 (.slice p1 xs.length c1) vs1) := hid (jAO hown (HB.out.size) HR1.out); replace HB := bT HB hbb; replace EX := hid (jA0 EX.out hbb); clear hb hown hrr hbb; go_wp2_with fail; have hb4 : Below u1.heap.size u1 (u1.alloc (.cells #[.slice p1 xs.length c1] 120)) := (Below.refl _ _).alloc (Nat.le_refl _) _
 refine (jE3 H.out (HB.out.trans (hb4.mono HB.out.size)) _ _ _ [vs1] [(xs.map (.expr f))] (xs.map (.expr f)) (by simp)
  (jCJ (lo := w.heap.size) (ls := [vs1]) (wk := u1) (ss := [.slice p1 xs.length c1]) ⟨HV1.out, trivial⟩ HB.out.size (by simp) rfl rfl) ⟨jAD hb4 HR1.out, trivial⟩ HS.out (by simp)).mono ?_
 rintro e wz ⟨⟨rfl, hd⟩, hkp⟩; go_wp2_with fail
 go_end0
 exact ⟨rfl, hd⟩
end Sw
namespace Sw
theorem exprdN {w0 : World} (htab : Lib.TabIs Tryz.prog w0 "internal/strconv.uint64pow10" .u64 Lib.pow10Tab) (f : Nat) {B : Nat} {w : World} {T : List UInt8} {S : List Nd} (p : Nat) (nm : List UInt8) (i : Int) (ns : List (List UInt8)) (xs : List Px.Expr) (al : List (Px.Pat × Px.Expr)) (q4 q5 q6 : Option Addr) (c4 c5 c6 : Nat)
 (h4 : jAI 1 jD8 w0 (.slice q4 ns.length c4) ns) (h5 : jAI 7 (jCB f w0) w0 (.slice q5 xs.length c5) xs) (h6 : jAI 12 (AltG f w0) w0 (.slice q6 al.length c6) al) (h : St w0 B w T S) (k : Nat) (k0 : ¬ k = 0) (k3 : ¬ k = 3) (k4 : ¬ k = 4) (k5 : ¬ k = 5) (k6 : ¬ k = 6) (k8 : ¬ k = 8) (hs : Small T S (named nm (xs.map (.expr f)))) :
 Calls Tryz.prog 34 #[.pointer (some ⟨B, 0, none⟩), .agg #[.int .i64 (k : Nat), .int .i64 (p : Nat), .string ⟨nm.toArray⟩, .int .i64 i, .slice q4 ns.length c4, .slice q5 xs.length c5, .slice q6 al.length c6]] w (Did w0 B T S (named nm (xs.map (.expr f)))) := by
 have H := hid h; have HS := hid hs; replace h4 := hid h4; replace h5 := hid h5; replace h6 := hid h6; have HTAB := hid htab; have e0 : ((k : Int) == 0) = false := by simpa using (show ¬ (k : Int) = 0 by omega)
 have e3 : ((k : Int) == 3) = false := by simpa using (show ¬ (k : Int) = 3 by omega)
 have e4 : ((k : Int) == 4) = false := by simpa using (show ¬ (k : Int) = 4 by omega)
 have e5 : ((k : Int) == 5) = false := by simpa using (show ¬ (k : Int) = 5 by omega)
 have e6 : ((k : Int) == 6) = false := by simpa using (show ¬ (k : Int) = 6 by omega)
 have e8 : ((k : Int) == 8) = false := by simpa using (show ¬ (k : Int) = 8 by omega)
 clear k0 k3 k4 k5 k6 k8; clear h htab hs; go_enter Tryz.func34, Tryz.ntmps34; have EX := hid (jA3 w #[.int .i64 (k : Nat), .int .i64 (p : Nat), .string ⟨nm.toArray⟩, .int .i64 i, .slice q4 ns.length c4, .slice q5 xs.length c5, .slice q6 al.length c6] 47); have HB := hid (show Below w.heap.size w (w.alloc (.cells #[.int .i64 (k : Nat), .int .i64 (p : Nat), .string ⟨nm.toArray⟩, .int .i64 i, .slice q4 ns.length c4, .slice q5 xs.length c5, .slice q6 al.length c6] 47)) from (Below.refl _ _).alloc (Nat.le_refl _) _); go_upto_region 1 with fail
 generalize w.alloc (.cells #[.int .i64 (k : Nat), .int .i64 (p : Nat), .string ⟨nm.toArray⟩, .int .i64 i, .slice q4 ns.length c4, .slice q5 xs.length c5, .slice q6 al.length c6] 47) = wb at EX HB ⊢; have y0 := jA EX.out 0 (.int .i64 (k : Nat)) rfl; have y1 := jA EX.out 1 (.int .i64 (p : Nat)) rfl; have y2 := jA EX.out 2 (.string ⟨nm.toArray⟩) rfl; have y3 := jA EX.out 3 (.int .i64 i) rfl; have y4 := jA EX.out 4 (.slice q4 ns.length c4) rfl; have y5 := jA EX.out 5 (.slice q5 xs.length c5) rfl; have y6 := jA EX.out 6 (.slice q6 al.length c6) rfl; go_wp2_with fail; refine (jJR (jCB f w0) jDT (.expr f) 34 (fun _ _ _ h => h) (H.out.below HB.out) nm q5 xs.length c5 xs (jBQ h5.out (H.out.base.trans (HB.out.mono H.out.base.size))) HS.out).mono ?_; rintro e w2 ⟨rfl, hd⟩; go_wp2_with fail
 go_end0
 exact ⟨rfl, hd⟩
end Sw
namespace Sw
theorem exprN {w0 : World} (htab : Lib.TabIs Tryz.prog w0 "internal/strconv.uint64pow10" .u64 Lib.pow10Tab) (f : Nat) {B : Nat} {w : World} {T : List UInt8} {S : List Nd} (u : Value) (x : Px.Expr) (hx : jCB f w0 u x) (h : St w0 B w T S) (hs : Small T S (step (.expr f x))) :
 Calls Tryz.prog 34 #[.pointer (some ⟨B, 0, none⟩), u] w (Did w0 B T S (step (.expr f x))) := by
 obtain ⟨hx, hok⟩ := hx; cases f with
 | zero => exact hx.elim
 | succ f =>
   obtain ⟨k, p, nm, i, ns, xs, al⟩ := x; obtain ⟨nv, xv, av, rfl, h4, h5, h6⟩ := hx; obtain ⟨q4, c4, rfl⟩ := h4.len; obtain ⟨q5, c5, rfl⟩ := h5.len; obtain ⟨q6, c6, rfl⟩ := h6.len; obtain ⟨hi, hlet, hxs, hal⟩ := hok; simp only [step] at hs ⊢; replace h4 : jAI 1 jD8 w0 (.slice q4 ns.length c4) ns := h4; replace h5 : jAI 7 (jCB f w0) w0 (.slice q5 xs.length c5) xs := h5.mono (Below.refl _ _) fun u x hm hu => ⟨hu, hxs x hm⟩
   replace h6 : jAI 12 (AltG f w0) w0 (.slice q6 al.length c6) al := h6.mono (Below.refl _ _) fun u x hm hu => ⟨hu, hal x hm⟩
   by_cases k0 : k = 0
   . rw [if_pos k0] at hs ⊢; subst k0
     exact expr0N htab f p nm i ns xs al q4 q5 q6 c4 c5 c6 h4 h5 h6 h (hi rfl) hs
   rw [if_neg k0] at hs ⊢; by_cases k3 : k = 3
   . rw [if_pos k3] at hs ⊢; subst k3
     exact expr3N htab f p nm i ns xs al q4 q5 q6 c4 c5 c6 h4 h5 h6 h hs
   rw [if_neg k3] at hs ⊢; by_cases k4 : k = 4
   . rw [if_pos k4] at hs ⊢; subst k4
     exact expr4N htab f p nm i ns xs al q4 q5 q6 c4 c5 c6 h4 h5 h6 h (hlet rfl) _ _ rfl rfl hs
   rw [if_neg k4] at hs ⊢; by_cases k5 : k = 5
   . rw [if_pos k5] at hs ⊢; subst k5
     exact expr5N htab f p nm i ns xs al q4 q5 q6 c4 c5 c6 h4 h5 h6 h hs
   rw [if_neg k5] at hs ⊢; by_cases k6 : k = 6
   . rw [if_pos k6] at hs ⊢; subst k6
     exact expr6N htab f p nm i ns xs al q4 q5 q6 c4 c5 c6 h4 h5 h6 h hs
   rw [if_neg k6] at hs ⊢; by_cases k8 : k = 8
   . rw [if_pos k8] at hs ⊢; subst k8
     exact expr8N htab f p nm i ns xs al q4 q5 q6 c4 c5 c6 h4 h5 h6 h hs
   rw [if_neg k8] at hs ⊢; exact exprdN htab f p nm i ns xs al q4 q5 q6 c4 c5 c6 h4 h5 h6 h k k0 k3 k4 k5 k6 k8 hs
end Sw
namespace Sw
def Does (w0 : World) (B : Nat) (w : World) (T : List UInt8) (S : List Nd) (v : Value) (x : List UInt8 × List Nd) : Prop :=
 ∃ (F : FuncId) (caps : Array Value), v = .func (.func F) #[] caps /\ (∀ args w, (callFunc F args).run Tryz.prog w = .ok (.enter F args) w) /\ Calls Tryz.prog F (#[.pointer (some ⟨B, 0, none⟩)] ++ caps) w (Did w0 B T S x)
theorem cloStr {w0 : World} (htab : Lib.TabIs Tryz.prog w0 "internal/strconv.uint64pow10" .u64 Lib.pow10Tab) {B : Nat} {w : World} {T : List UInt8} {S : List Nd} (v : Value) (x : List UInt8) (hv : jAG w0 w v (Nd.word x)) (h : St w0 B w T S) (hs : Small T S (step (Nd.word x))) : Does w0 B w T S v (step (Nd.word x)) := by
 obtain ⟨wb, pb, u, rfl, h1, h2, h3⟩ := hv; refine ⟨132, _, rfl, enters_of Tryz.func132 (by kernel_rfl) rfl, ?_⟩; show Calls Tryz.prog 132 #[.pointer (some ⟨B, 0, none⟩), .pointer (some ⟨wb, 0, none⟩), .pointer (some ⟨pb, 0, none⟩)] w (Did w0 B T S (step (Nd.word x))); obtain ⟨t0, rfl⟩ := ((fun u x hu => ⟨_, hu⟩ : ∀ (u : Value) (x : List UInt8), jD8 u x -> IsStr u)) u x h3; obtain rfl : t0 = ⟨x.toArray⟩ := by injection h3
 have y := jA h1 0 (.func (.func 71) #[] #[]) rfl; have y0 := jA h2 0 (.string ⟨x.toArray⟩) rfl; have H := hid h; have HS := hid hs; have HU := hid h3; clear h hs h1 h2 h3; go_enter Tryz.func132, Tryz.ntmps132; go_wp2_with fail; refine (jI9 H.out x HS.out).mono ?_; rintro e w2 ⟨rfl, hd⟩; go_wp2_with fail
 go_end0
 exact ⟨rfl, hd⟩
theorem cloTypeE {w0 : World} (htab : Lib.TabIs Tryz.prog w0 "internal/strconv.uint64pow10" .u64 Lib.pow10Tab) (f : Nat) {B : Nat} {w : World} {T : List UInt8} {S : List Nd} (v : Value) (x : Px.TypeE) (hv : jAG w0 w v (Nd.typ f x)) (h : St w0 B w T S) (hs : Small T S (step (Nd.typ f x))) : Does w0 B w T S v (step (Nd.typ f x)) := by
 obtain ⟨wb, pb, u, rfl, h1, h2, h3⟩ := hv; refine ⟨134, _, rfl, enters_of Tryz.func134 (by kernel_rfl) rfl, ?_⟩; show Calls Tryz.prog 134 #[.pointer (some ⟨B, 0, none⟩), .pointer (some ⟨wb, 0, none⟩), .pointer (some ⟨pb, 0, none⟩)] w (Did w0 B T S (step (Nd.typ f x))); obtain ⟨i0, t1, q2, n2, c2, rfl⟩ := (jLI) u x h3; have y := jA h1 0 (.func (.func 30) #[] #[]) rfl; have y0 := jA h2 0 (.int .i64 i0) rfl; have y1 := jA h2 1 (.string t1) rfl; have y2 := jA h2 2 (.slice q2 n2 c2) rfl; have H := hid h; have HS := hid hs; have HU := hid h3; clear h hs h1 h2 h3; go_enter Tryz.func134, Tryz.ntmps134; go_wp2_with fail; refine (typeN f _ x HU.out H.out HS.out).mono ?_; rintro e w2 ⟨rfl, hd⟩; go_wp2_with fail
 go_end0
 exact ⟨rfl, hd⟩
theorem cloPat {w0 : World} (htab : Lib.TabIs Tryz.prog w0 "internal/strconv.uint64pow10" .u64 Lib.pow10Tab) (f : Nat) {B : Nat} {w : World} {T : List UInt8} {S : List Nd} (v : Value) (x : Px.Pat) (hv : jAG w0 w v (Nd.pat f x)) (h : St w0 B w T S) (hs : Small T S (step (Nd.pat f x))) : Does w0 B w T S v (step (Nd.pat f x)) := by
 obtain ⟨wb, pb, u, rfl, h1, h2, h3⟩ := hv; refine ⟨149, _, rfl, enters_of Tryz.func149 (by kernel_rfl) rfl, ?_⟩; show Calls Tryz.prog 149 #[.pointer (some ⟨B, 0, none⟩), .pointer (some ⟨wb, 0, none⟩), .pointer (some ⟨pb, 0, none⟩)] w (Did w0 B T S (step (Nd.pat f x))); obtain ⟨i0, i1, t2, i3, q4, n4, c4, rfl⟩ := (jKK) u x h3; have y := jA h1 0 (.func (.func 75) #[] #[]) rfl; have y0 := jA h2 0 (.int .i64 i0) rfl; have y1 := jA h2 1 (.int .i64 i1) rfl; have y2 := jA h2 2 (.string t2) rfl; have y3 := jA h2 3 (.int .i64 i3) rfl; have y4 := jA h2 4 (.slice q4 n4 c4) rfl; have H := hid h; have HS := hid hs; have HU := hid h3; clear h hs h1 h2 h3; go_enter Tryz.func149, Tryz.ntmps149; go_wp2_with fail; refine (patN htab f _ x HU.out H.out HS.out).mono ?_; rintro e w2 ⟨rfl, hd⟩; go_wp2_with fail
 go_end0
 exact ⟨rfl, hd⟩
theorem cloExpr {w0 : World} (htab : Lib.TabIs Tryz.prog w0 "internal/strconv.uint64pow10" .u64 Lib.pow10Tab) (f : Nat) {B : Nat} {w : World} {T : List UInt8} {S : List Nd} (v : Value) (x : Px.Expr) (hv : jAG w0 w v (Nd.expr f x)) (h : St w0 B w T S) (hs : Small T S (step (Nd.expr f x))) : Does w0 B w T S v (step (Nd.expr f x)) := by
 obtain ⟨wb, pb, u, rfl, h1, h2, h3⟩ := hv; refine ⟨104, _, rfl, enters_of Tryz.func104 (by kernel_rfl) rfl, ?_⟩; show Calls Tryz.prog 104 #[.pointer (some ⟨B, 0, none⟩), .pointer (some ⟨wb, 0, none⟩), .pointer (some ⟨pb, 0, none⟩)] w (Did w0 B T S (step (Nd.expr f x))); obtain ⟨i0, i1, t2, i3, q4, n4, c4, q5, n5, c5, q6, n6, c6, rfl⟩ := (jDT) u x h3; have y := jA h1 0 (.func (.func 34) #[] #[]) rfl; have y0 := jA h2 0 (.int .i64 i0) rfl; have y1 := jA h2 1 (.int .i64 i1) rfl; have y2 := jA h2 2 (.string t2) rfl; have y3 := jA h2 3 (.int .i64 i3) rfl; have y4 := jA h2 4 (.slice q4 n4 c4) rfl; have y5 := jA h2 5 (.slice q5 n5 c5) rfl; have y6 := jA h2 6 (.slice q6 n6 c6) rfl; have H := hid h; have HS := hid hs; have HU := hid h3; clear h hs h1 h2 h3; go_enter Tryz.func104, Tryz.ntmps104; go_wp2_with fail; refine (exprN htab f _ x HU.out H.out HS.out).mono ?_; rintro e w2 ⟨rfl, hd⟩; go_wp2_with fail
 go_end0
 exact ⟨rfl, hd⟩
theorem cloCon {w0 : World} (htab : Lib.TabIs Tryz.prog w0 "internal/strconv.uint64pow10" .u64 Lib.pow10Tab) (f : Nat) {B : Nat} {w : World} {T : List UInt8} {S : List Nd} (v : Value) (x : Px.Con) (hv : jAG w0 w v (Nd.con f x)) (h : St w0 B w T S) (hs : Small T S (step (Nd.con f x))) : Does w0 B w T S v (step (Nd.con f x)) := by
 obtain ⟨wb, pb, u, rfl, h1, h2, h3⟩ := hv; refine ⟨101, _, rfl, enters_of Tryz.func101 (by kernel_rfl) rfl, ?_⟩; show Calls Tryz.prog 101 #[.pointer (some ⟨B, 0, none⟩), .pointer (some ⟨wb, 0, none⟩), .pointer (some ⟨pb, 0, none⟩)] w (Did w0 B T S (step (Nd.con f x))); obtain ⟨i0, t1, q2, n2, c2, rfl⟩ := (jHJ) u x h3; have y := jA h1 0 (.func (.func 59) #[] #[]) rfl; have y0 := jA h2 0 (.int .i64 i0) rfl; have y1 := jA h2 1 (.string t1) rfl; have y2 := jA h2 2 (.slice q2 n2 c2) rfl; have H := hid h; have HS := hid hs; have HU := hid h3; clear h hs h1 h2 h3; go_enter Tryz.func101, Tryz.ntmps101; go_wp2_with fail; refine (conN f _ x HU.out H.out HS.out).mono ?_; rintro e w2 ⟨rfl, hd⟩; go_wp2_with fail
 go_end0
 exact ⟨rfl, hd⟩
theorem cloAlt {w0 : World} (htab : Lib.TabIs Tryz.prog w0 "internal/strconv.uint64pow10" .u64 Lib.pow10Tab) (f : Nat) {B : Nat} {w : World} {T : List UInt8} {S : List Nd} (v : Value) (x : Px.Pat × Px.Expr) (hv : jAG w0 w v (Nd.alt f x)) (h : St w0 B w T S) (hs : Small T S (step (Nd.alt f x))) : Does w0 B w T S v (step (Nd.alt f x)) := by
 obtain ⟨wb, pb, u, rfl, h1, h2, h3⟩ := hv; refine ⟨107, _, rfl, enters_of Tryz.func107 (by kernel_rfl) rfl, ?_⟩; show Calls Tryz.prog 107 #[.pointer (some ⟨B, 0, none⟩), .pointer (some ⟨wb, 0, none⟩), .pointer (some ⟨pb, 0, none⟩)] w (Did w0 B T S (step (Nd.alt f x))); obtain ⟨i0, i1, t2, i3, q4, n4, c4, i5, i6, t7, i8, q9, n9, c9, q10, n10, c10, q11, n11, c11, rfl⟩ := (isAlt) u x h3; have y := jA h1 0 (.func (.func 70) #[] #[]) rfl; have y0 := jA h2 0 (.int .i64 i0) rfl; have y1 := jA h2 1 (.int .i64 i1) rfl; have y2 := jA h2 2 (.string t2) rfl; have y3 := jA h2 3 (.int .i64 i3) rfl; have y4 := jA h2 4 (.slice q4 n4 c4) rfl; have y5 := jA h2 5 (.int .i64 i5) rfl; have y6 := jA h2 6 (.int .i64 i6) rfl; have y7 := jA h2 7 (.string t7) rfl; have y8 := jA h2 8 (.int .i64 i8) rfl; have y9 := jA h2 9 (.slice q9 n9 c9) rfl; have y10 := jA h2 10 (.slice q10 n10 c10) rfl; have y11 := jA h2 11 (.slice q11 n11 c11) rfl; have H := hid h; have HS := hid hs; have HU := hid h3; clear h hs h1 h2 h3; go_enter Tryz.func107, Tryz.ntmps107; go_wp2_with fail; refine (altN f _ x HU.out H.out HS.out).mono ?_; rintro e w2 ⟨rfl, hd⟩; go_wp2_with fail
 go_end0
 exact ⟨rfl, hd⟩
theorem cloBind {w0 : World} (htab : Lib.TabIs Tryz.prog w0 "internal/strconv.uint64pow10" .u64 Lib.pow10Tab) (f : Nat) {B : Nat} {w : World} {T : List UInt8} {S : List Nd} (v : Value) (x : List UInt8 × Px.Expr) (hv : jAG w0 w v (Nd.pair f x)) (h : St w0 B w T S) (hs : Small T S (step (Nd.pair f x))) : Does w0 B w T S v (step (Nd.pair f x)) := by
 obtain ⟨wb, pb, u, rfl, h1, h2, h3⟩ := hv; refine ⟨136, _, rfl, enters_of Tryz.func136 (by kernel_rfl) rfl, ?_⟩; show Calls Tryz.prog 136 #[.pointer (some ⟨B, 0, none⟩), .pointer (some ⟨wb, 0, none⟩), .pointer (some ⟨pb, 0, none⟩)] w (Did w0 B T S (step (Nd.pair f x))); obtain ⟨t0, i1, i2, t3, i4, q5, n5, c5, q6, n6, c6, q7, n7, c7, rfl⟩ := (isBind) u x h3; have y := jA h1 0 (.func (.func 68) #[] #[]) rfl; have y0 := jA h2 0 (.string t0) rfl; have y1 := jA h2 1 (.int .i64 i1) rfl; have y2 := jA h2 2 (.int .i64 i2) rfl; have y3 := jA h2 3 (.string t3) rfl; have y4 := jA h2 4 (.int .i64 i4) rfl; have y5 := jA h2 5 (.slice q5 n5 c5) rfl; have y6 := jA h2 6 (.slice q6 n6 c6) rfl; have y7 := jA h2 7 (.slice q7 n7 c7) rfl; have H := hid h; have HS := hid hs; have HU := hid h3; clear h hs h1 h2 h3; go_enter Tryz.func136, Tryz.ntmps136; go_wp2_with fail; refine (pairN f _ x HU.out H.out HS.out).mono ?_; rintro e w2 ⟨rfl, hd⟩; go_wp2_with fail
 go_end0
 exact ⟨rfl, hd⟩
theorem cloData {w0 : World} (htab : Lib.TabIs Tryz.prog w0 "internal/strconv.uint64pow10" .u64 Lib.pow10Tab) (f : Nat) {B : Nat} {w : World} {T : List UInt8} {S : List Nd} (v : Value) (x : Px.Data) (hv : jAG w0 w v (Nd.data f x)) (h : St w0 B w T S) (hs : Small T S (step (Nd.data f x))) : Does w0 B w T S v (step (Nd.data f x)) := by
 obtain ⟨wb, pb, u, rfl, h1, h2, h3⟩ := hv; refine ⟨129, _, rfl, enters_of Tryz.func129 (by kernel_rfl) rfl, ?_⟩; show Calls Tryz.prog 129 #[.pointer (some ⟨B, 0, none⟩), .pointer (some ⟨wb, 0, none⟩), .pointer (some ⟨pb, 0, none⟩)] w (Did w0 B T S (step (Nd.data f x))); obtain ⟨i0, t1, q2, n2, c2, q3, n3, c3, rfl⟩ := (jLL) u x h3; have y := jA h1 0 (.func (.func 28) #[] #[]) rfl; have y0 := jA h2 0 (.int .i64 i0) rfl; have y1 := jA h2 1 (.string t1) rfl; have y2 := jA h2 2 (.slice q2 n2 c2) rfl; have y3 := jA h2 3 (.slice q3 n3 c3) rfl; have H := hid h; have HS := hid hs; have HU := hid h3; clear h hs h1 h2 h3; go_enter Tryz.func129, Tryz.ntmps129; go_wp2_with fail; refine (dataN f _ x HU.out H.out HS.out).mono ?_; rintro e w2 ⟨rfl, hd⟩; go_wp2_with fail
 go_end0
 exact ⟨rfl, hd⟩
theorem cloDef {w0 : World} (htab : Lib.TabIs Tryz.prog w0 "internal/strconv.uint64pow10" .u64 Lib.pow10Tab) (f : Nat) {B : Nat} {w : World} {T : List UInt8} {S : List Nd} (v : Value) (x : Px.Def) (hv : jAG w0 w v (Nd.defn f x)) (h : St w0 B w T S) (hs : Small T S (step (Nd.defn f x))) : Does w0 B w T S v (step (Nd.defn f x)) := by
 obtain ⟨wb, pb, u, rfl, h1, h2, h3⟩ := hv; refine ⟨135, _, rfl, enters_of Tryz.func135 (by kernel_rfl) rfl, ?_⟩; show Calls Tryz.prog 135 #[.pointer (some ⟨B, 0, none⟩), .pointer (some ⟨wb, 0, none⟩), .pointer (some ⟨pb, 0, none⟩)] w (Did w0 B T S (step (Nd.defn f x))); obtain ⟨i0, t1, q2, n2, c2, i3, i4, t5, i6, q7, n7, c7, q8, n8, c8, q9, n9, c9, rfl⟩ := (jP3) u x h3; have y := jA h1 0 (.func (.func 32) #[] #[]) rfl; have y0 := jA h2 0 (.int .i64 i0) rfl; have y1 := jA h2 1 (.string t1) rfl; have y2 := jA h2 2 (.slice q2 n2 c2) rfl; have y3 := jA h2 3 (.int .i64 i3) rfl; have y4 := jA h2 4 (.int .i64 i4) rfl; have y5 := jA h2 5 (.string t5) rfl; have y6 := jA h2 6 (.int .i64 i6) rfl; have y7 := jA h2 7 (.slice q7 n7 c7) rfl; have y8 := jA h2 8 (.slice q8 n8 c8) rfl; have y9 := jA h2 9 (.slice q9 n9 c9) rfl; have H := hid h; have HS := hid hs; have HU := hid h3; clear h hs h1 h2 h3; go_enter Tryz.func135, Tryz.ntmps135; go_wp2_with fail; refine (defN f _ x HU.out H.out HS.out).mono ?_; rintro e w2 ⟨rfl, hd⟩; go_wp2_with fail
 go_end0
 exact ⟨rfl, hd⟩
theorem cloTree {w0 : World} (htab : Lib.TabIs Tryz.prog w0 "internal/strconv.uint64pow10" .u64 Lib.pow10Tab) (f : Nat) {B : Nat} {w : World} {T : List UInt8} {S : List Nd} (v : Value) (x : Tr) (hv : jAG w0 w v (Nd.tree f x)) (h : St w0 B w T S) (hs : Small T S (step (Nd.tree f x))) : Does w0 B w T S v (step (Nd.tree f x)) := by
 obtain ⟨wb, pb, u, rfl, h1, h2, h3⟩ := hv; refine ⟨142, _, rfl, enters_of Tryz.func142 (by kernel_rfl) rfl, ?_⟩; show Calls Tryz.prog 142 #[.pointer (some ⟨B, 0, none⟩), .pointer (some ⟨wb, 0, none⟩), .pointer (some ⟨pb, 0, none⟩)] w (Did w0 B T S (step (Nd.tree f x))); obtain ⟨t0, i1, i2, i3, q4, n4, c4, rfl⟩ := (isTree) u x h3; have y := jA h1 0 (.func (.func 39) #[] #[]) rfl; have y0 := jA h2 0 (.string t0) rfl; have y1 := jA h2 1 (.int .i64 i1) rfl; have y2 := jA h2 2 (.int .i64 i2) rfl; have y3 := jA h2 3 (.int .i64 i3) rfl; have y4 := jA h2 4 (.slice q4 n4 c4) rfl; have H := hid h; have HS := hid hs; have HU := hid h3; clear h hs h1 h2 h3; go_enter Tryz.func142, Tryz.ntmps142; go_wp2_with fail; refine (treeN htab f _ x HU.out H.out HS.out).mono ?_; rintro e w2 ⟨rfl, hd⟩; go_wp2_with fail
 go_end0
 exact ⟨rfl, hd⟩
theorem cloNames {w0 : World} {B : Nat} {w : World} {T : List UInt8} {S : List Nd} (v : Value) (l : List (List UInt8)) (hv : jAG w0 w v (Nd.names l)) (h : St w0 B w T S) (hs : Small T S (step (Nd.names l))) : Does w0 B w T S v (step (Nd.names l)) := by
 obtain ⟨pb, wb, q, n, c, rfl, h1, h2, h3⟩ := hv; refine ⟨133, _, rfl, enters_of Tryz.func133 (by kernel_rfl) rfl, ?_⟩; show Calls Tryz.prog 133 #[.pointer (some ⟨B, 0, none⟩), .pointer (some ⟨pb, 0, none⟩), .pointer (some ⟨wb, 0, none⟩)] w (Did w0 B T S (step (Nd.names l))); simp only [step] at hs ⊢; have y1 := jA h1 0 (.slice q n c) rfl; have y2 := jA h2 0 (.func (.func 71) #[] #[]) rfl; have H := hid h; have HS := hid hs; have HR0 := hid h3; have EX := hid h1; have HB := hid (Below.refl w.heap.size w); have HN : Hid (l.length <= 1000000) := hid (by have := hs.2; have h2 := jC (l.map (.word)); simp only [List.length_append, List.length_cons, List.length_map, List.length_nil] at this h2; omega); clear h hs h1 h2 h3; go_enter Tryz.func133, Tryz.ntmps133; go_wp2_with fail; refine (jJD (jD8) (fun u x hu => ⟨_, hu⟩) (.slice q n c) l 71 w (jBQ HR0.out (H.out.base)) (HN.out)).mono ?_; rintro e u1 ⟨rv, vs1, rfl, hb, hown, hrr⟩; obtain ⟨p1, c1, rfl⟩ := jAZ hown; have hbb : Below w.heap.size w u1 := hb; have HR1 : Hid (Reps (jAG w0 u1) vs1 (l.map Nd.word)) := hid (jB5 (rep' := jAG w0 u1) (mk := .word) (fun v x hv => hv) hrr); have HV1 : Hid (VRow w.heap.size u1 (.slice p1 l.length c1) vs1) := hid (jAO hown (HB.out.size) HR1.out); replace HB := bT HB hbb; replace EX := hid (jA0 EX.out hbb); clear hb hown hrr hbb; go_wp2_with fail; have hb4 : Below u1.heap.size u1 (u1.alloc (.cells #[.slice p1 l.length c1] 120)) := (Below.refl _ _).alloc (Nat.le_refl _) _
 refine (jE3 H.out (HB.out.trans (hb4.mono HB.out.size)) _ _ _ [vs1] [(l.map Nd.word)] (l.map Nd.word) (by simp)
  (jCJ (lo := w.heap.size) (ls := [vs1]) (wk := u1) (ss := [.slice p1 l.length c1]) ⟨HV1.out, trivial⟩ HB.out.size (by simp) rfl rfl) ⟨jAD hb4 HR1.out, trivial⟩ HS.out (by simp)).mono ?_
 rintro e wz ⟨⟨rfl, hd⟩, hkp⟩; go_wp2_with fail
 go_end0
 exact ⟨rfl, hd⟩
theorem cloPairs {w0 : World} (f : Nat) {B : Nat} {w : World} {T : List UInt8} {S : List Nd} (v : Value) (l : List (List UInt8 × Px.Expr)) (hv : jAG w0 w v (Nd.pairs f l)) (h : St w0 B w T S) (hs : Small T S (step (Nd.pairs f l))) : Does w0 B w T S v (step (Nd.pairs f l)) := by
 obtain ⟨pb, wb, q, n, c, rfl, h1, h2, h3⟩ := hv; refine ⟨105, _, rfl, enters_of Tryz.func105 (by kernel_rfl) rfl, ?_⟩; show Calls Tryz.prog 105 #[.pointer (some ⟨B, 0, none⟩), .pointer (some ⟨pb, 0, none⟩), .pointer (some ⟨wb, 0, none⟩)] w (Did w0 B T S (step (Nd.pairs f l))); simp only [step] at hs ⊢; have y1 := jA h1 0 (.slice q n c) rfl; have y2 := jA h2 0 (.func (.func 68) #[] #[]) rfl; have H := hid h; have HS := hid hs; have HR0 := hid h3; have EX := hid h1; have HB := hid (Below.refl w.heap.size w); have HN : Hid (l.length <= 1000000) := hid (by have := hs.2; have h2 := jC (l.map (.pair f)); simp only [List.length_append, List.length_cons, List.length_map, List.length_nil] at this h2; omega); clear h hs h1 h2 h3; go_enter Tryz.func105, Tryz.ntmps105; go_wp2_with fail; refine (jNI (jGC f w0) (isBind) (.slice q n c) l 68 w (HR0.out.row) (HN.out)).mono ?_; rintro e u1 ⟨rv, vs1, rfl, hb, hown, hrr⟩; obtain ⟨p1, c1, rfl⟩ := jAZ hown; have hbb : Below w.heap.size w u1 := hb; have HR1 : Hid (Reps (jAG w0 u1) vs1 (l.map (.pair f))) := hid (jB5 (rep' := jAG w0 u1) (mk := .pair f) (fun v x hv => hv) hrr); have HV1 : Hid (VRow w.heap.size u1 (.slice p1 l.length c1) vs1) := hid (jAO hown (HB.out.size) HR1.out); replace HB := bT HB hbb; replace EX := hid (jA0 EX.out hbb); clear hb hown hrr hbb; go_wp2_with fail; have hb4 : Below u1.heap.size u1 (u1.alloc (.cells #[.slice p1 l.length c1] 120)) := (Below.refl _ _).alloc (Nat.le_refl _) _
 refine (jE3 H.out (HB.out.trans (hb4.mono HB.out.size)) _ _ _ [vs1] [(l.map (.pair f))] (l.map (.pair f)) (by simp)
  (jCJ (lo := w.heap.size) (ls := [vs1]) (wk := u1) (ss := [.slice p1 l.length c1]) ⟨HV1.out, trivial⟩ HB.out.size (by simp) rfl rfl) ⟨jAD hb4 HR1.out, trivial⟩ HS.out (by simp)).mono ?_
 rintro e wz ⟨⟨rfl, hd⟩, hkp⟩; go_wp2_with fail
 go_end0
 exact ⟨rfl, hd⟩
theorem jGU {w0 : World} (htab : Lib.TabIs Tryz.prog w0 "internal/strconv.uint64pow10" .u64 Lib.pow10Tab) {B : Nat} {w : World} {T : List UInt8} {S : List Nd} (v : Value) (n : Nd) (hv : jAG w0 w v n) (h : St w0 B w T S) (hs : Small T S (step n)) : Does w0 B w T S v (step n) := by
 cases n with
 | blank =>
   obtain ⟨vs, h1, h2, h3⟩ := h; exact ⟨_, #[], hv, enters_of Tryz.func98 (by kernel_rfl) rfl, (jQX h1 (by have := hs.1; simp only [step, List.length_append] at this; omega)).mono fun e w' hw => jGV h2 h3 hw⟩
 | fin =>
   obtain ⟨vs, h1, h2, h3⟩ := h; exact ⟨_, #[], hv, enters_of Tryz.func95 (by kernel_rfl) rfl, (end_any h1 (by have := hs.1; simp only [step, List.length_append] at this; omega)).mono fun e w' hw => jGV h2 h3 hw⟩
 | word s => exact cloStr htab v s hv h hs
 | typ f t => exact cloTypeE htab f v t hv h hs
 | pat f p => exact cloPat htab f v p hv h hs
 | expr f x => exact cloExpr htab f v x hv h hs
 | alt f a => exact cloAlt htab f v a hv h hs
 | pair f b => exact cloBind htab f v b hv h hs
 | names l => exact cloNames v l hv h hs
 | pairs f l => exact cloPairs f v l hv h hs
 | con f c => exact cloCon htab f v c hv h hs
 | data f d => exact cloData htab f v d hv h hs
 | defn f d => exact cloDef htab f v d hv h hs
 | tree f t => exact cloTree htab f v t hv h hs
end Sw
namespace Sw
theorem jG5 {lo B g k c : Nat} {w : World} {T : List UInt8} {vs : List Value} {v : Value} (h : SVx lo B w T (vs ++ [v]) (.slice (some ⟨g, 0, none⟩) (k + 1) c)) (hk : vs.length = k) :
 SVx lo B (w.setCell ⟨B, 2, none⟩ (.slice (some ⟨g, 0, none⟩) k c)) T vs (.slice (some ⟨g, 0, none⟩) k c) /\ Below lo w (w.setCell ⟨B, 2, none⟩ (.slice (some ⟨g, 0, none⟩) k c)) /\ Keep w (w.setCell ⟨B, 2, none⟩ (.slice (some ⟨g, 0, none⟩) k c)) /\ w.cell? ⟨g, k, none⟩ = some v /\ k + 1 <= c /\ (c : Int) <= 9223372036854775807 := by
 subst hk; obtain ⟨cs, h1, h2, h3⟩ := h; obtain ⟨bv, b1, b2⟩ := h1.own
 rcases h3.2 with ⟨he, _⟩ | ⟨g', cap, cur, he, a1, a2, a3, a4, a5, a6⟩
 . cases he
 simp only [Value.slice.injEq, Option.some.injEq, Addr.mk.injEq] at he; obtain ⟨⟨rfl, _, _⟩, _, rfl⟩ := he; have hne : g ≠ B := fun e => by subst e; rw [h1.heap] at a2; simp only [Option.some.injEq, Obj.cells.injEq] at a2; exact absurd a2.2.1 (by decide)
 have hown : w.ownsRow lo 125 1 (.slice (some ⟨g, 0, none⟩) vs.length c) vs.length vs := by
  refine ⟨by simp, .inr ⟨g, c, cur, rfl, a1, a2, by rw [List.length_append] at a3; simp at a3; omega, a4, a5, ?_⟩⟩; have := congrArg (fun l => l.take (vs.length * 1)) a6
  simpa [List.take_take] using this
 have hsz : ¬ Value.ownBlock bv = some B := Lib.ownBlock_ne b2 h1.heap (by decide); refine ⟨⟨cs.setIfInBounds 2 (.slice (some ⟨g, 0, none⟩) vs.length c), ⟨heap_setCell_same w B 2 _ _ _ h1.heap, jFS h1.size _ _, h1.low, (by rw [jBK _ _ _ _ (by decide)]; exact h1.addr), bv, (jBK _ _ _ _ (by decide)).trans b1, jGS b2 hsz⟩, jCN _ _ _ (by have := h1.size; omega), jGS hown (by simp [Value.ownBlock, hne])⟩, (Below.refl lo w).setCell (p := ⟨B, 2, none⟩) h1.low _, (jC3.set B 2 w _).keep h1.heap, ?_, by rw [List.length_append] at a3; simpa using a3, by unfold maxLen at a4; omega⟩; refine jA a2 _ _ ?_; have hx : (vs ++ [v])[vs.length]? = some v := by simp
 rw [<- a6, List.getElem?_take_of_lt (by simp), Array.getElem?_toList] at hx; exact hx
theorem jDY {α : Type} {rep : Value -> α -> Prop} : ∀ {vs : List Value} {xs : List α} {x : α}, Reps rep vs (xs ++ [x]) -> ∃ us u, vs = us ++ [u] /\ Reps rep us xs /\ rep u x
 | [], [], _, h => h.elim
 | [], _ :: _, _, h => h.elim
 | [v], [], _, h => ⟨[], v, rfl, trivial, h.1⟩
 | v :: w :: vs, [], _, h => h.2.elim
 | v :: vs, y :: xs, x, h => by
   obtain ⟨us, u, rfl, h2, h3⟩ := jDY h.2; exact ⟨v :: us, u, rfl, ⟨h.1, h2⟩, h3⟩
def Lp (w0 : World) (B : Nat) (TX : List UInt8) (k : Nat) (w : World) : Prop := ∃ T S U, St w0 B w T S /\ Run S U k /\ T ++ U = TX
theorem jHZ {n : Nd} {r : List Nd} {U : List UInt8} {k : Nat} (h : Run (n :: r) U k) : ∃ V j, k = j + 1 /\ U = (step n).1 ++ V /\ Run ((step n).2 ++ r) V j := by
 cases h with
 | cons h => exact ⟨_, _, rfl, rfl, h⟩
theorem jHY {U : List UInt8} {k : Nat} (h : Run [] U k) : U = [] := by cases h; rfl
theorem jGO {w0 w1 : World} {rv u : Value} {n : Nd} (hb : Below w0.heap.size w0 w1) (hown : w1.ownsRow w0.heap.size 125 1 rv 1 [u]) (hn : jAG w0 w1 u n) :
 St w0 w1.heap.size (w1.alloc (.cells #[.pointer none, .slice none 0 0, rv] 123)) [] [n] := by
 have hA : Below w1.heap.size w1 (w1.alloc (.cells #[.pointer none, .slice none 0 0, rv] 123)) := (Below.refl _ _).alloc (Nat.le_refl _) _; exact ⟨[u], ⟨_, rv, ⟨jA3 w1 _ _, rfl, hb.size, .inl rfl, .slice none 0 0, rfl, World.ownsRow_nil _ _ _ _⟩, rfl, jA5 hown hA⟩, ⟨jAG.keep (Keep.below hA) hn, trivial⟩, hb.trans (hA.mono hb.size)⟩
end Sw
namespace Sw
theorem jKS (f : Nat) (w : World) (htab : Lib.TabIs Tryz.prog w "internal/strconv.uint64pow10" .u64 Lib.pow10Tab) (w0 : World) (hw0 : w0 = w) (v : Value) (x : Px.Expr) (hx : jCB f w0 v x) (TX : List UInt8) (k0 : Nat) (hrun : Run [Nd.expr f x] TX k0) (hl : TX.length <= 1000000) :
 Calls Tryz.prog 33 #[v, .func (.func 34) #[] #[]] w fun e w' => e = .returned (.string ⟨TX.toArray⟩) /\ Below w.heap.size w w' := by
 subst hw0; have hne : TX ≠ [] := by have := hrun.len; intro e; rw [e] at this; simp at this
 obtain ⟨i0, i1, t2, i3, q4, n4, c4, q5, n5, c5, q6, n6, c6, rfl⟩ := jDT v x hx; have HX := hid hx; have HT := hid htab; have HL := hid hl; have HNE := hid hne; have HR := hid hrun; clear hx htab hl hne hrun; go_enter Tryz.func33, Tryz.ntmps33; go_wp2_with fail; have HB := hid (show Below w0.heap.size w0 (w0.alloc (.cells #[.int .i64 i0, .int .i64 i1, .string t2, .int .i64 i3, .slice q4 n4 c4, .slice q5 n5 c5, .slice q6 n6 c6] 47)) from (Below.refl _ _).alloc (Nat.le_refl _) _); refine (jET (jCB f w0) jDT _ x 34 _ HX.out).mono ?_; rintro e w1 ⟨rv, u, rfl, hb, hown, hclo⟩; obtain ⟨p, c, rfl⟩ := jAZ hown; have HB1 := bT HB hb; have hst := jGO (n := Nd.expr f x) HB1.out (jE5 hown HB.out.size) hclo; have HST := hid hst; clear hb hown hclo hst HB; go_wp2_with fail; generalize w1.alloc (.cells #[.pointer none, .slice none 0 0, .slice p 1 c] 123) = w2 at HST ⊢; generalize w1.heap.size = B at HST ⊢; have HL0 : Hid (Lp w0 B TX k0 w2) := hid ⟨[], _, TX, HST.out, HR.out, rfl⟩; clear HST HB1
 go_loopg [6] k0 (fun k v6 wr => Hid (Lp w0 B TX k wr))
 case atStart => exact HL0
 case round =>
  clear HL0; obtain ⟨T, S, U, hst, hrun, hT⟩ := hrel.out; clear hrel; cases S with
  | nil =>
    obtain rfl := jHY hrun; rw [List.append_nil] at hT; subst hT; obtain ⟨vs, ⟨cs, wv, h1, h2, h3⟩, hr, hb⟩ := hst; have hvs : vs.length = 0 := hr.len; rw [hvs] at h3; obtain ⟨p2, c2, rfl⟩ := jAZ h3; have y2 := (h1.cell 2).trans h2; have H1 := hid h1; have HB := hid hb; clear h1 h2 h3 hr hb hvs hrun; go_wp2_with fail; refine (jDP btyW H1.out HNE.out).mono ?_; rintro e w3 ⟨rfl, hb3⟩; go_wp2_with fail; go_ret; exact ⟨rfl, HB.out.trans hb3⟩
  | cons n r =>
    obtain ⟨V, j, rfl, rfl, hrun2⟩ := jHZ hrun; have hlen := hrun2.len; have hTl := congrArg List.length hT; have hTX := HL.out; simp only [List.length_append] at hTl; have hsm : Small T r (step n) := ⟨by rw [List.length_append]; omega, by omega⟩; obtain ⟨vs, ⟨cs, wv, h1, h2, h3⟩, hr, hb⟩ := hst; rw [List.reverse_cons] at hr; obtain ⟨vs0, v, rfl, hr0, hv⟩ := jDY hr; obtain ⟨kk, hkk⟩ : ∃ kk, kk = vs0.length := ⟨_, rfl⟩
    have hl1 : (vs0 ++ [v]).length = kk + 1 := by rw [hkk]; simp
    have hex : ∃ g cc, wv = .slice (some ⟨g, 0, none⟩) (kk + 1) cc := by
     rcases h3.2 with ⟨_, h0⟩ | ⟨g, cap, cur, he, _⟩
     . rw [hl1] at h0; omega
     . exact ⟨g, cap, by rw [he, hl1]⟩
    obtain ⟨g, cc, rfl⟩ := hex; obtain ⟨s1, s2, s3, s4, s5, s6⟩ := jG5 (k := kk) (show SVx w0.heap.size B wr T (vs0 ++ [v]) (.slice (some ⟨g, 0, none⟩) (kk + 1) cc) from ⟨cs, h1, h2, h3⟩) hkk.symm; have hst2 : St w0 B (wr.setCell ⟨B, 2, none⟩ (.slice (some ⟨g, 0, none⟩) kk cc)) T r := ⟨vs0, s1.sv, Reps.mono (fun v n hn => jAG.keep s3 hn) hr0, hb.trans s2⟩; obtain ⟨F, caps, rfl, hF, hcall⟩ := jGU HT.out v n (jAG.keep s3 hv) hst2 hsm; have y2 := (h1.cell 2).trans h2; have yf := h1.free 2; have HC := hid hcall; have HR2 := hid hrun2; have HTT := hid hT; have k1 : (kk : Int) + 1 <= (cc : Int) := by omega
    have k2 : wrap64 ((kk : Int) + 1 - 1) = (kk : Int) := by unfold wrap64; omega
    clear h1 h2 h3 hr hr0 hv hb s1 s2 s3 hst2 hcall hrun hrun2 hT hTl hTX hsm hlen hl1 hkk s5; go_wp2_with fail; refine HC.out.mono ?_; rintro e w3 ⟨rfl, hd⟩; have HD := hid hd; clear hd; go_wp2_with fail
    go_roundg j
    case measure => omega
    case rel => exact hid ⟨_, _, V, HD.out, HR2.out, by rw [List.append_assoc]; exact HTT.out⟩
theorem jKY (f : Nat) (w : World) (htab : Lib.TabIs Tryz.prog w "internal/strconv.uint64pow10" .u64 Lib.pow10Tab) (v : Value) (x : Px.Expr) (hx : ∀ w0, w0 = w -> jCB f w0 v x) (TX : List UInt8) (k0 : Nat) (hrun : Run [Nd.expr f x] TX k0) (hl : TX.length <= 1000000)
 (hx2 : ∀ w0 o, w0 = w.alloc o -> jCB f w0 v x) : Calls Tryz.prog 15 #[v] w fun e w' => e = .returned (.string ⟨TX.toArray⟩) /\ Below w.heap.size w w' := by
 obtain ⟨i0, i1, t2, i3, q4, n4, c4, q5, n5, c5, q6, n6, c6, rfl⟩ := jDT v x (hx w rfl); have HX := hid hx2; have hb : Below w.heap.size w (w.alloc (.cells #[.int .i64 i0, .int .i64 i1, .string t2, .int .i64 i3, .slice q4 n4 c4, .slice q5 n5 c5, .slice q6 n6 c6] 47)) := (Below.refl _ _).alloc (Nat.le_refl _) _; have HB := hid hb; have HT := hid ((Lib.tabBelow_of_tabIs htab) _ hb); have HR := hid hrun; clear hx hx2 hb htab hrun; go_enter Tryz.func15, Tryz.ntmps15; go_wp2_with fail; refine (jKS f _ HT.out _ rfl _ x (HX.out _ _ rfl) TX k0 HR.out hl).mono ?_; rintro e w2 ⟨rfl, hb2⟩; go_wp2_with fail; go_ret; exact ⟨rfl, HB.out.trans (hb2.mono HB.out.size)⟩
end Sw
namespace Sw
theorem patK : ∀ {f : Nat} {w w' : World} {v : Value} {t : Px.Pat}, jE f w v t -> Below w.heap.size w w' -> jE f w' v t := by
 intro f
 induction f with
 | zero => intro w w' v t h; exact h.elim
 | succ f ih =>
   intro w w' v t h hb; obtain ⟨k, p, nm, i, args⟩ := t; obtain ⟨av, rfl, h1⟩ := h; exact ⟨av, rfl, h1.mono hb (fun u x _ hu => ih hu hb)⟩
theorem exprK : ∀ {f : Nat} {w w' : World} {v : Value} {t : Px.Expr}, jB f w v t -> Below w.heap.size w w' -> jB f w' v t := by
 intro f
 induction f with
 | zero => intro w w' v t h; exact h.elim
 | succ f ih =>
   intro w w' v t h hb; obtain ⟨k, p, nm, i, ns, xs, al⟩ := t; obtain ⟨nv, xv, av, rfl, h1, h2, h3⟩ := h; refine ⟨nv, xv, av, rfl, h1.mono hb (fun u x _ hu => hu), h2.mono hb (fun u x _ hu => ih hu hb), h3.mono hb (fun u x _ hu => ?_)⟩; obtain ⟨a0, a1, a2, a3, a4, b0, b1, b2, b3, b4, b5, b6, e, ha, hx⟩ := hu; exact ⟨a0, a1, a2, a3, a4, b0, b1, b2, b3, b4, b5, b6, e, patK ha hb, ih hx hb⟩
theorem jK3 (f : Nat) (w : World) (htab : Lib.TabIs Tryz.prog w "internal/strconv.uint64pow10" .u64 Lib.pow10Tab) (v : Value) (x : Px.Expr) (hx : jCB f w v x) (TX : List UInt8) (hrun : ∃ k, Run [.expr f x] TX k) (hl : TX.length <= 1000000) :
 Calls Tryz.prog 15 #[v] w fun e w' => e = .returned (.string ⟨TX.toArray⟩) /\ Below w.heap.size w w' := by
 obtain ⟨k0, hrun⟩ := hrun; exact jKY f w htab v x (fun w0 h => by subst h; exact hx) TX k0 hrun hl (fun w0 o h => by subst h; exact ⟨exprK hx.1 ((Below.refl _ _).alloc (Nat.le_refl _) _), hx.2⟩)
def jKG : List UInt8 := [40, 102, 110, 32, 40, 120, 41, 32, 32, 40, 43, 32, 120, 32, 49, 41, 41]
def jH9 : Px.Expr := .mk 3 0 [] 0 [[120]] [.mk 7 9 [43] 0 [] [.mk 1 12 [120] 0 [] [] [], .mk 0 14 [] 1 [] [] []] []] []
theorem lives_px : Px.jF0 jKG = .done jH9 := by kernel_rfl
theorem itoa_one : Lib.itoa 1 = [49] := by unfold Lib.itoa; rw [if_neg (by decide)]; exact Lib.decDigits_one (by decide)
theorem lives_ok : jHQ 50 jH9 := by
 refine ⟨fun h => absurd h (by decide), fun h => absurd h (by decide), ?_, fun a ha => by cases ha⟩; intro x hx; rw [List.mem_singleton] at hx; subst hx; refine ⟨fun h => absurd h (by decide), fun h => absurd h (by decide), ?_, fun a ha => by cases ha⟩; intro x hx
 rcases List.mem_cons.1 hx with rfl | hx
 . exact ⟨fun h => absurd h (by decide), fun h => absurd h (by decide), (fun x hx => by cases hx), fun a ha => by cases ha⟩
 . rw [List.mem_singleton] at hx; subst hx; exact ⟨fun _ => ⟨by decide, by decide⟩, fun h => absurd h (by decide), (fun x hx => by cases hx), fun a ha => by cases ha⟩
def jIZ : List UInt8 := [40, 102, 110, 32, 40, 120, 41, 32, 40, 43, 32, 120, 32, 49, 41, 41]
theorem jQH : ∃ k, Run [.expr 50 jH9] jIZ k := by
 have h0 : ∃ k, Run [Nd.expr 48 (.mk 0 14 [] 1 [] [] [])] (Lib.itoa 1) k := run_text (by simp [step])
 have h1 : ∃ k, Run [Nd.expr 48 (.mk 1 12 [120] 0 [] [] [])] [120] k := run_text (by simp [step, named, wd])
 have h2 : ∃ k, Run [Nd.expr 49 (.mk 7 9 [43] 0 [] [.mk 1 12 [120] 0 [] [] [], .mk 0 14 [] 1 [] [] []] [])] _ k := jEA (nm := [43]) (l := [Nd.expr 48 (.mk 1 12 [120] 0 [] [] []), Nd.expr 48 (.mk 0 14 [] 1 [] [] [])]) (ts := [[120], Lib.itoa 1]) (by decide) (by simp [step]) ⟨h1, h0, trivial⟩
 have h3 : ∃ k, Run [Nd.names [[120]]] (joined [[120]]) k := jBM (l := [.word [120]]) (by simp [step]) ⟨jCK _ (by decide), trivial⟩
 have h4 := jBM (n := .expr 50 jH9) (l := [.word [102, 110], .names [[120]], .expr 49 (.mk 7 9 [43] 0 [] [.mk 1 12 [120] 0 [] [] [], .mk 0 14 [] 1 [] [] []] [])]) (ts := [[102, 110], joined [[120]], if [[120], Lib.itoa 1] = [] then [43] else joined ([43] :: [[120], Lib.itoa 1])]) (by simp [step, jH9]) ⟨jCK [102, 110] (by decide), h3, h2, trivial⟩
 have e : joined [[102, 110], joined [[120]], if [[120], Lib.itoa 1] = [] then [43] else joined ([43] :: [[120], Lib.itoa 1])] = jIZ := by
  rw [itoa_one]; decide
 rw [e] at h4; exact h4
theorem fail_run : ∃ k, Run [.expr 50 (.mk 8 0 [] 0 [] [] [])] [102, 97, 105, 108] k := run_text (by simp [step])
theorem jKF (w : World) (htab : Lib.TabIs Tryz.prog w "internal/strconv.uint64pow10" .u64 Lib.pow10Tab) : Calls Tryz.prog 7 #[] w fun e w' => e = .returned (.bool true) /\ Below w.heap.size w w' := by
 have kc := fun (w : World) (C : Array Value) (n c : Nat) => Lib.run_convert_bytes_const (P := Tryz.prog) w 22 5 C n c Tryz.underlying22 Tryz.underlying5
 have HTAB := hid htab; clear htab; go_enter Tryz.func7, Tryz.ntmps7; go_wp2_with fail; clear kc; refine (Expr_any _ jKG _ (.inr ⟨w.heap.size, 0, 17, rfl, by decide, by decide, ?_⟩)).mono ?_
 . intro j hj; rw [World.cell?_alloc_mark, Nat.zero_add]; have hj6 : j < 17 := hj; have : j = 0 \/ j = 1 \/ j = 2 \/ j = 3 \/ j = 4 \/ j = 5 \/ j = 6 \/ j = 7 \/ j = 8 \/ j = 9 \/ j = 10 \/ j = 11 \/ j = 12 \/ j = 13 \/ j = 14 \/ j = 15 \/ j = 16 := by omega
   rcases this with rfl | rfl | rfl | rfl | rfl | rfl | rfl | rfl | rfl | rfl | rfl | rfl | rfl | rfl | rfl | rfl | rfl
   all_goals rfl
 . rintro e w1 ⟨hB, hres⟩; rw [lives_px] at hres; obtain ⟨v, rfl, hnew⟩ := hres; have hx := hnew.now; obtain ⟨i0, i1, t2, i3, q4, n4, c4, q5, n5, c5, q6, n6, c6, rfl⟩ := jEV v _ hx; have HX := hid hx; have HB := hid (((Below.refl w.heap.size w).alloc (Nat.le_refl _) _).trans (hB.mono (by simp))); clear hB hnew hx; have hb2 : Below w1.heap.size w1 (w1.alloc (.cells #[.int .i64 i0, .int .i64 i1, .string t2, .int .i64 i3, .slice q4 n4 c4, .slice q5 n5 c5, .slice q6 n6 c6] 47)) := (Below.refl _ _).alloc (Nat.le_refl _) _; have HB2 := hid hb2; clear hb2; go_wp2_with fail; refine (jK3 50 _ ((Lib.tabBelow_of_tabIs HTAB.out) _ (HB.out.trans (HB2.out.mono HB.out.size))) _ jH9 ⟨exprK HX.out HB2.out, lives_ok⟩ jIZ jQH (by decide)).mono ?_; rintro e w3 ⟨rfl, hb3⟩; have HB3 := hid ((HB.out.trans (HB2.out.mono HB.out.size)).trans (hb3.mono (by have := HB.out.size; have := HB2.out.size; omega))); clear hb3; go_wp2_with fail; refine (jK3 50 _ ((Lib.tabBelow_of_tabIs HTAB.out) _ HB3.out) _ (.mk 8 0 [] 0 [] [] []) ⟨⟨_, _, _, rfl, jB4 _ _ _, jB4 _ _ _, jB4 _ _ _⟩, ⟨fun h => absurd h (by decide), fun h => absurd h (by decide), (fun x hx => by cases hx), fun a ha => by cases ha⟩⟩ [102, 97, 105, 108] fail_run (by decide)).mono ?_; rintro e w4 ⟨rfl, hb4⟩; go_wp2_with fail; go_ret; exact ⟨rfl, HB3.out.trans (hb4.mono HB3.out.size)⟩
end Sw
namespace Sw
theorem jKT (f : Nat) (w : World) (htab : Lib.TabIs Tryz.prog w "internal/strconv.uint64pow10" .u64 Lib.pow10Tab) (w0 : World) (hw0 : w0 = w) (v : Value) (x : Px.Data) (hx : jD5 f w0 v x) (TX : List UInt8) (k0 : Nat) (hrun : Run [Nd.data f x] TX k0) (hl : TX.length <= 1000000) :
 Calls Tryz.prog 27 #[v, .func (.func 28) #[] #[]] w fun e w' => e = .returned (.string ⟨TX.toArray⟩) /\ Below w.heap.size w w' := by
 subst hw0; have hne : TX ≠ [] := by have := hrun.len; intro e; rw [e] at this; simp at this
 obtain ⟨i0, t1, q2, n2, c2, q3, n3, c3, rfl⟩ := jLL v x hx; have HX := hid hx; have HT := hid htab; have HL := hid hl; have HNE := hid hne; have HR := hid hrun; clear hx htab hl hne hrun; go_enter Tryz.func27, Tryz.ntmps27; go_wp2_with fail; have HB := hid (show Below w0.heap.size w0 (w0.alloc (.cells #[.int .i64 i0, .string t1, .slice q2 n2 c2, .slice q3 n3 c3] 36)) from (Below.refl _ _).alloc (Nat.le_refl _) _); refine (jMN (jD5 f w0) jLL _ x 28 _ HX.out).mono ?_; rintro e w1 ⟨rv, u, rfl, hb, hown, hclo⟩; obtain ⟨p, c, rfl⟩ := jAZ hown; have HB1 := bT HB hb; have hst := jGO (n := Nd.data f x) HB1.out (jE5 hown HB.out.size) hclo; have HST := hid hst; clear hb hown hclo hst HB; go_wp2_with fail; generalize w1.alloc (.cells #[.pointer none, .slice none 0 0, .slice p 1 c] 123) = w2 at HST ⊢; generalize w1.heap.size = B at HST ⊢; have HL0 : Hid (Lp w0 B TX k0 w2) := hid ⟨[], _, TX, HST.out, HR.out, rfl⟩; clear HST HB1
 go_loopg [6] k0 (fun k v6 wr => Hid (Lp w0 B TX k wr))
 case atStart => exact HL0
 case round =>
  clear HL0; obtain ⟨T, S, U, hst, hrun, hT⟩ := hrel.out; clear hrel; cases S with
  | nil =>
    obtain rfl := jHY hrun; rw [List.append_nil] at hT; subst hT; obtain ⟨vs, ⟨cs, wv, h1, h2, h3⟩, hr, hb⟩ := hst; have hvs : vs.length = 0 := hr.len; rw [hvs] at h3; obtain ⟨p2, c2, rfl⟩ := jAZ h3; have y2 := (h1.cell 2).trans h2; have H1 := hid h1; have HB := hid hb; clear h1 h2 h3 hr hb hvs hrun; go_wp2_with fail; refine (jDP btyW H1.out HNE.out).mono ?_; rintro e w3 ⟨rfl, hb3⟩; go_wp2_with fail; go_ret; exact ⟨rfl, HB.out.trans hb3⟩
  | cons n r =>
    obtain ⟨V, j, rfl, rfl, hrun2⟩ := jHZ hrun; have hlen := hrun2.len; have hTl := congrArg List.length hT; have hTX := HL.out; simp only [List.length_append] at hTl; have hsm : Small T r (step n) := ⟨by rw [List.length_append]; omega, by omega⟩; obtain ⟨vs, ⟨cs, wv, h1, h2, h3⟩, hr, hb⟩ := hst; rw [List.reverse_cons] at hr; obtain ⟨vs0, v, rfl, hr0, hv⟩ := jDY hr; obtain ⟨kk, hkk⟩ : ∃ kk, kk = vs0.length := ⟨_, rfl⟩
    have hl1 : (vs0 ++ [v]).length = kk + 1 := by rw [hkk]; simp
    have hex : ∃ g cc, wv = .slice (some ⟨g, 0, none⟩) (kk + 1) cc := by
     rcases h3.2 with ⟨_, h0⟩ | ⟨g, cap, cur, he, _⟩
     . rw [hl1] at h0; omega
     . exact ⟨g, cap, by rw [he, hl1]⟩
    obtain ⟨g, cc, rfl⟩ := hex; obtain ⟨s1, s2, s3, s4, s5, s6⟩ := jG5 (k := kk) (show SVx w0.heap.size B wr T (vs0 ++ [v]) (.slice (some ⟨g, 0, none⟩) (kk + 1) cc) from ⟨cs, h1, h2, h3⟩) hkk.symm; have hst2 : St w0 B (wr.setCell ⟨B, 2, none⟩ (.slice (some ⟨g, 0, none⟩) kk cc)) T r := ⟨vs0, s1.sv, Reps.mono (fun v n hn => jAG.keep s3 hn) hr0, hb.trans s2⟩; obtain ⟨F, caps, rfl, hF, hcall⟩ := jGU HT.out v n (jAG.keep s3 hv) hst2 hsm; have y2 := (h1.cell 2).trans h2; have yf := h1.free 2; have HC := hid hcall; have HR2 := hid hrun2; have HTT := hid hT; have k1 : (kk : Int) + 1 <= (cc : Int) := by omega
    have k2 : wrap64 ((kk : Int) + 1 - 1) = (kk : Int) := by unfold wrap64; omega
    clear h1 h2 h3 hr hr0 hv hb s1 s2 s3 hst2 hcall hrun hrun2 hT hTl hTX hsm hlen hl1 hkk s5; go_wp2_with fail; refine HC.out.mono ?_; rintro e w3 ⟨rfl, hd⟩; have HD := hid hd; clear hd; go_wp2_with fail
    go_roundg j
    case measure => omega
    case rel => exact hid ⟨_, _, V, HD.out, HR2.out, by rw [List.append_assoc]; exact HTT.out⟩
theorem jL (f : Nat) (w : World) (htab : Lib.TabIs Tryz.prog w "internal/strconv.uint64pow10" .u64 Lib.pow10Tab) (v : Value) (x : Px.Data) (hx : ∀ w0, w0 = w -> jD5 f w0 v x) (TX : List UInt8) (k0 : Nat) (hrun : Run [Nd.data f x] TX k0) (hl : TX.length <= 1000000)
 (hx2 : ∀ w0 o, w0 = w.alloc o -> jD5 f w0 v x) : Calls Tryz.prog 11 #[v] w fun e w' => e = .returned (.string ⟨TX.toArray⟩) /\ Below w.heap.size w w' := by
 obtain ⟨i0, t1, q2, n2, c2, q3, n3, c3, rfl⟩ := jLL v x (hx w rfl); have HX := hid hx2; have hb : Below w.heap.size w (w.alloc (.cells #[.int .i64 i0, .string t1, .slice q2 n2 c2, .slice q3 n3 c3] 36)) := (Below.refl _ _).alloc (Nat.le_refl _) _; have HB := hid hb; have HT := hid ((Lib.tabBelow_of_tabIs htab) _ hb); have HR := hid hrun; clear hx hx2 hb htab hrun; go_enter Tryz.func11, Tryz.ntmps11; go_wp2_with fail; refine (jKT f _ HT.out _ rfl _ x (HX.out _ _ rfl) TX k0 HR.out hl).mono ?_; rintro e w2 ⟨rfl, hb2⟩; go_wp2_with fail; go_ret; exact ⟨rfl, HB.out.trans (hb2.mono HB.out.size)⟩
end Sw
namespace Sw
theorem jM6 (f : Nat) (w : World) (htab : Lib.TabIs Tryz.prog w "internal/strconv.uint64pow10" .u64 Lib.pow10Tab) (w0 : World) (hw0 : w0 = w) (v : Value) (x : Px.Def) (hx : DefG f w0 v x) (TX : List UInt8) (k0 : Nat) (hrun : Run [Nd.defn f x] TX k0) (hl : TX.length <= 1000000) :
 Calls Tryz.prog 31 #[v, .func (.func 32) #[] #[]] w fun e w' => e = .returned (.string ⟨TX.toArray⟩) /\ Below w.heap.size w w' := by
 subst hw0; have hne : TX ≠ [] := by have := hrun.len; intro e; rw [e] at this; simp at this
 obtain ⟨i0, t1, q2, n2, c2, i3, i4, t5, i6, q7, n7, c7, q8, n8, c8, q9, n9, c9, rfl⟩ := jP3 v x hx; have HX := hid hx; have HT := hid htab; have HL := hid hl; have HNE := hid hne; have HR := hid hrun; clear hx htab hl hne hrun; go_enter Tryz.func31, Tryz.ntmps31; go_wp2_with fail; have HB := hid (show Below w0.heap.size w0 (w0.alloc (.cells #[.int .i64 i0, .string t1, .slice q2 n2 c2, .int .i64 i3, .int .i64 i4, .string t5, .int .i64 i6, .slice q7 n7 c7, .slice q8 n8 c8, .slice q9 n9 c9] 49)) from (Below.refl _ _).alloc (Nat.le_refl _) _); refine (jO1 (DefG f w0) jP3 _ x 32 _ HX.out).mono ?_; rintro e w1 ⟨rv, u, rfl, hb, hown, hclo⟩; obtain ⟨p, c, rfl⟩ := jAZ hown; have HB1 := bT HB hb; have hst := jGO (n := Nd.defn f x) HB1.out (jE5 hown HB.out.size) hclo; have HST := hid hst; clear hb hown hclo hst HB; go_wp2_with fail; generalize w1.alloc (.cells #[.pointer none, .slice none 0 0, .slice p 1 c] 123) = w2 at HST ⊢; generalize w1.heap.size = B at HST ⊢; have HL0 : Hid (Lp w0 B TX k0 w2) := hid ⟨[], _, TX, HST.out, HR.out, rfl⟩; clear HST HB1
 go_loopg [6] k0 (fun k v6 wr => Hid (Lp w0 B TX k wr))
 case atStart => exact HL0
 case round =>
  clear HL0; obtain ⟨T, S, U, hst, hrun, hT⟩ := hrel.out; clear hrel; cases S with
  | nil =>
    obtain rfl := jHY hrun; rw [List.append_nil] at hT; subst hT; obtain ⟨vs, ⟨cs, wv, h1, h2, h3⟩, hr, hb⟩ := hst; have hvs : vs.length = 0 := hr.len; rw [hvs] at h3; obtain ⟨p2, c2, rfl⟩ := jAZ h3; have y2 := (h1.cell 2).trans h2; have H1 := hid h1; have HB := hid hb; clear h1 h2 h3 hr hb hvs hrun; go_wp2_with fail; refine (jDP btyW H1.out HNE.out).mono ?_; rintro e w3 ⟨rfl, hb3⟩; go_wp2_with fail; go_ret; exact ⟨rfl, HB.out.trans hb3⟩
  | cons n r =>
    obtain ⟨V, j, rfl, rfl, hrun2⟩ := jHZ hrun; have hlen := hrun2.len; have hTl := congrArg List.length hT; have hTX := HL.out; simp only [List.length_append] at hTl; have hsm : Small T r (step n) := ⟨by rw [List.length_append]; omega, by omega⟩; obtain ⟨vs, ⟨cs, wv, h1, h2, h3⟩, hr, hb⟩ := hst; rw [List.reverse_cons] at hr; obtain ⟨vs0, v, rfl, hr0, hv⟩ := jDY hr; obtain ⟨kk, hkk⟩ : ∃ kk, kk = vs0.length := ⟨_, rfl⟩
    have hl1 : (vs0 ++ [v]).length = kk + 1 := by rw [hkk]; simp
    have hex : ∃ g cc, wv = .slice (some ⟨g, 0, none⟩) (kk + 1) cc := by
     rcases h3.2 with ⟨_, h0⟩ | ⟨g, cap, cur, he, _⟩
     . rw [hl1] at h0; omega
     . exact ⟨g, cap, by rw [he, hl1]⟩
    obtain ⟨g, cc, rfl⟩ := hex; obtain ⟨s1, s2, s3, s4, s5, s6⟩ := jG5 (k := kk) (show SVx w0.heap.size B wr T (vs0 ++ [v]) (.slice (some ⟨g, 0, none⟩) (kk + 1) cc) from ⟨cs, h1, h2, h3⟩) hkk.symm; have hst2 : St w0 B (wr.setCell ⟨B, 2, none⟩ (.slice (some ⟨g, 0, none⟩) kk cc)) T r := ⟨vs0, s1.sv, Reps.mono (fun v n hn => jAG.keep s3 hn) hr0, hb.trans s2⟩; obtain ⟨F, caps, rfl, hF, hcall⟩ := jGU HT.out v n (jAG.keep s3 hv) hst2 hsm; have y2 := (h1.cell 2).trans h2; have yf := h1.free 2; have HC := hid hcall; have HR2 := hid hrun2; have HTT := hid hT; have k1 : (kk : Int) + 1 <= (cc : Int) := by omega
    have k2 : wrap64 ((kk : Int) + 1 - 1) = (kk : Int) := by unfold wrap64; omega
    clear h1 h2 h3 hr hr0 hv hb s1 s2 s3 hst2 hcall hrun hrun2 hT hTl hTX hsm hlen hl1 hkk s5; go_wp2_with fail; refine HC.out.mono ?_; rintro e w3 ⟨rfl, hd⟩; have HD := hid hd; clear hd; go_wp2_with fail
    go_roundg j
    case measure => omega
    case rel => exact hid ⟨_, _, V, HD.out, HR2.out, by rw [List.append_assoc]; exact HTT.out⟩
theorem jMC (f : Nat) (w : World) (htab : Lib.TabIs Tryz.prog w "internal/strconv.uint64pow10" .u64 Lib.pow10Tab) (v : Value) (x : Px.Def) (hx : ∀ w0, w0 = w -> DefG f w0 v x) (TX : List UInt8) (k0 : Nat) (hrun : Run [Nd.defn f x] TX k0) (hl : TX.length <= 1000000)
 (hx2 : ∀ w0 o, w0 = w.alloc o -> DefG f w0 v x) : Calls Tryz.prog 14 #[v] w fun e w' => e = .returned (.string ⟨TX.toArray⟩) /\ Below w.heap.size w w' := by
 obtain ⟨i0, t1, q2, n2, c2, i3, i4, t5, i6, q7, n7, c7, q8, n8, c8, q9, n9, c9, rfl⟩ := jP3 v x (hx w rfl); have HX := hid hx2; have hb : Below w.heap.size w (w.alloc (.cells #[.int .i64 i0, .string t1, .slice q2 n2 c2, .int .i64 i3, .int .i64 i4, .string t5, .int .i64 i6, .slice q7 n7 c7, .slice q8 n8 c8, .slice q9 n9 c9] 49)) := (Below.refl _ _).alloc (Nat.le_refl _) _; have HB := hid hb; have HT := hid ((Lib.tabBelow_of_tabIs htab) _ hb); have HR := hid hrun; clear hx hx2 hb htab hrun; go_enter Tryz.func14, Tryz.ntmps14; go_wp2_with fail; refine (jM6 f _ HT.out _ rfl _ x (HX.out _ _ rfl) TX k0 HR.out hl).mono ?_; rintro e w2 ⟨rfl, hb2⟩; go_wp2_with fail; go_ret; exact ⟨rfl, HB.out.trans (hb2.mono HB.out.size)⟩
end Sw
namespace Sw
theorem jM5 (f : Nat) (w : World) (htab : Lib.TabIs Tryz.prog w "internal/strconv.uint64pow10" .u64 Lib.pow10Tab) (w0 : World) (hw0 : w0 = w) (v : Value) (x : Px.Pat) (hx : PatG f w0 v x) (TX : List UInt8) (k0 : Nat) (hrun : Run [Nd.pat f x] TX k0) (hl : TX.length <= 1000000) :
 Calls Tryz.prog 74 #[v, .func (.func 75) #[] #[]] w fun e w' => e = .returned (.string ⟨TX.toArray⟩) /\ Below w.heap.size w w' := by
 subst hw0; have hne : TX ≠ [] := by have := hrun.len; intro e; rw [e] at this; simp at this
 obtain ⟨i0, i1, t2, i3, q4, n4, c4, rfl⟩ := jKK v x hx; have HX := hid hx; have HT := hid htab; have HL := hid hl; have HNE := hid hne; have HR := hid hrun; clear hx htab hl hne hrun; go_enter Tryz.func74, Tryz.ntmps74; go_wp2_with fail; have HB := hid (show Below w0.heap.size w0 (w0.alloc (.cells #[.int .i64 i0, .int .i64 i1, .string t2, .int .i64 i3, .slice q4 n4 c4] 84)) from (Below.refl _ _).alloc (Nat.le_refl _) _); refine (jIQ (PatG f w0) jKK _ x 75 _ HX.out).mono ?_; rintro e w1 ⟨rv, u, rfl, hb, hown, hclo⟩; obtain ⟨p, c, rfl⟩ := jAZ hown; have HB1 := bT HB hb; have hst := jGO (n := Nd.pat f x) HB1.out (jE5 hown HB.out.size) hclo; have HST := hid hst; clear hb hown hclo hst HB; go_wp2_with fail; generalize w1.alloc (.cells #[.pointer none, .slice none 0 0, .slice p 1 c] 123) = w2 at HST ⊢; generalize w1.heap.size = B at HST ⊢; have HL0 : Hid (Lp w0 B TX k0 w2) := hid ⟨[], _, TX, HST.out, HR.out, rfl⟩; clear HST HB1
 go_loopg [6] k0 (fun k v6 wr => Hid (Lp w0 B TX k wr))
 case atStart => exact HL0
 case round =>
  clear HL0; obtain ⟨T, S, U, hst, hrun, hT⟩ := hrel.out; clear hrel; cases S with
  | nil =>
    obtain rfl := jHY hrun; rw [List.append_nil] at hT; subst hT; obtain ⟨vs, ⟨cs, wv, h1, h2, h3⟩, hr, hb⟩ := hst; have hvs : vs.length = 0 := hr.len; rw [hvs] at h3; obtain ⟨p2, c2, rfl⟩ := jAZ h3; have y2 := (h1.cell 2).trans h2; have H1 := hid h1; have HB := hid hb; clear h1 h2 h3 hr hb hvs hrun; go_wp2_with fail; refine (jDP btyW H1.out HNE.out).mono ?_; rintro e w3 ⟨rfl, hb3⟩; go_wp2_with fail; go_ret; exact ⟨rfl, HB.out.trans hb3⟩
  | cons n r =>
    obtain ⟨V, j, rfl, rfl, hrun2⟩ := jHZ hrun; have hlen := hrun2.len; have hTl := congrArg List.length hT; have hTX := HL.out; simp only [List.length_append] at hTl; have hsm : Small T r (step n) := ⟨by rw [List.length_append]; omega, by omega⟩; obtain ⟨vs, ⟨cs, wv, h1, h2, h3⟩, hr, hb⟩ := hst; rw [List.reverse_cons] at hr; obtain ⟨vs0, v, rfl, hr0, hv⟩ := jDY hr; obtain ⟨kk, hkk⟩ : ∃ kk, kk = vs0.length := ⟨_, rfl⟩
    have hl1 : (vs0 ++ [v]).length = kk + 1 := by rw [hkk]; simp
    have hex : ∃ g cc, wv = .slice (some ⟨g, 0, none⟩) (kk + 1) cc := by
     rcases h3.2 with ⟨_, h0⟩ | ⟨g, cap, cur, he, _⟩
     . rw [hl1] at h0; omega
     . exact ⟨g, cap, by rw [he, hl1]⟩
    obtain ⟨g, cc, rfl⟩ := hex; obtain ⟨s1, s2, s3, s4, s5, s6⟩ := jG5 (k := kk) (show SVx w0.heap.size B wr T (vs0 ++ [v]) (.slice (some ⟨g, 0, none⟩) (kk + 1) cc) from ⟨cs, h1, h2, h3⟩) hkk.symm; have hst2 : St w0 B (wr.setCell ⟨B, 2, none⟩ (.slice (some ⟨g, 0, none⟩) kk cc)) T r := ⟨vs0, s1.sv, Reps.mono (fun v n hn => jAG.keep s3 hn) hr0, hb.trans s2⟩; obtain ⟨F, caps, rfl, hF, hcall⟩ := jGU HT.out v n (jAG.keep s3 hv) hst2 hsm; have y2 := (h1.cell 2).trans h2; have yf := h1.free 2; have HC := hid hcall; have HR2 := hid hrun2; have HTT := hid hT; have k1 : (kk : Int) + 1 <= (cc : Int) := by omega
    have k2 : wrap64 ((kk : Int) + 1 - 1) = (kk : Int) := by unfold wrap64; omega
    clear h1 h2 h3 hr hr0 hv hb s1 s2 s3 hst2 hcall hrun hrun2 hT hTl hTX hsm hlen hl1 hkk s5; go_wp2_with fail; refine HC.out.mono ?_; rintro e w3 ⟨rfl, hd⟩; have HD := hid hd; clear hd; go_wp2_with fail
    go_roundg j
    case measure => omega
    case rel => exact hid ⟨_, _, V, HD.out, HR2.out, by rw [List.append_assoc]; exact HTT.out⟩
theorem jHH (f : Nat) (w : World) (htab : Lib.TabIs Tryz.prog w "internal/strconv.uint64pow10" .u64 Lib.pow10Tab) (v : Value) (x : Px.Pat) (hx : ∀ w0, w0 = w -> PatG f w0 v x) (TX : List UInt8) (k0 : Nat) (hrun : Run [Nd.pat f x] TX k0) (hl : TX.length <= 1000000)
 (hx2 : ∀ w0 o, w0 = w.alloc o -> PatG f w0 v x) : Calls Tryz.prog 37 #[v] w fun e w' => e = .returned (.string ⟨TX.toArray⟩) /\ Below w.heap.size w w' := by
 obtain ⟨i0, i1, t2, i3, q4, n4, c4, rfl⟩ := jKK v x (hx w rfl); have HX := hid hx2; have hb : Below w.heap.size w (w.alloc (.cells #[.int .i64 i0, .int .i64 i1, .string t2, .int .i64 i3, .slice q4 n4 c4] 84)) := (Below.refl _ _).alloc (Nat.le_refl _) _; have HB := hid hb; have HT := hid ((Lib.tabBelow_of_tabIs htab) _ hb); have HR := hid hrun; clear hx hx2 hb htab hrun; go_enter Tryz.func37, Tryz.ntmps37; go_wp2_with fail; refine (jM5 f _ HT.out _ rfl _ x (HX.out _ _ rfl) TX k0 HR.out hl).mono ?_; rintro e w2 ⟨rfl, hb2⟩; go_wp2_with fail; go_ret; exact ⟨rfl, HB.out.trans (hb2.mono HB.out.size)⟩
end Sw

end Go.Proofs.YtnhndamfbeiljaaGreatDoor
