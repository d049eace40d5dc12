/-
  What a waiting node does when its turn comes.
-/
import Derived.Test.YtnhndamfbeiljaaGreatDoorGSwS
import Derived.Test.YtnhndamfbeiljaaGreatDoorGSwT
import Derived.Test.YtnhndamfbeiljaaGreatDoorKWFnE
namespace Go.Proofs.YtnhndamfbeiljaaGreatDoor
open Go Go.RowKit
set_option linter.unusedVariables false
set_option linter.unusedSimpArgs false
namespace Sw
/-- A function's value that does so with the writer. -/
def Does (w0 : World) (B : Nat) (w : World) (T : List UInt8) (S : List Nd) (v : Value) (x : List UInt8 × List Nd) : Prop :=
  ∃ (F : FuncId) (caps : Array Value), v = .func (.func F) #[] caps ∧ (∀ args w, (callFunc F args).run Tryz.prog w = .ok (.enter F args) w) ∧ Calls Tryz.prog F (#[.pointer (some ⟨B, 0, none⟩)] ++ caps) w (Did w0 B T S x)
set_option maxHeartbeats 4000000 in
set_option maxRecDepth 100000 in
theorem cloStr {w0 : World} (htab : Lib.TabIs Tryz.prog w0 "internal/strconv.uint64pow10" .u64 Lib.pow10Tab) {B : Nat} {w : World} {T : List UInt8} {S : List Nd} (v : Value) (x : List UInt8) (hv : NodeV w0 w v (Nd.word x)) (h : St w0 B w T S) (hs : Small T S (step (Nd.word x))) : Does w0 B w T S v (step (Nd.word x)) := by
  obtain ⟨wb, pb, u, rfl, h1, h2, h3⟩ := hv
  refine ⟨132, _, rfl, enters_of Tryz.func132 (by kernel_rfl) rfl, ?_⟩
  show Calls Tryz.prog 132 #[.pointer (some ⟨B, 0, none⟩), .pointer (some ⟨wb, 0, none⟩), .pointer (some ⟨pb, 0, none⟩)] w (Did w0 B T S (step (Nd.word x)))
  obtain ⟨t0, rfl⟩ := ((fun u x hu => ⟨_, hu⟩ : ∀ (u : Value) (x : List UInt8), StrIs u x → IsStr u)) u x h3
  obtain rfl : t0 = ⟨x.toArray⟩ := by injection h3
  have y := ent_cell h1 0 (.func (.func 71) #[] #[]) rfl
  have y0 := ent_cell h2 0 (.string ⟨x.toArray⟩) rfl
  have H := Lib.hid h
  have HS := Lib.hid hs
  have HU := Lib.hid h3
  clear h hs h1 h2 h3
  go_enter Tryz.func132, Tryz.ntmps132
  go_wp2_with fail
  refine (wordN H.out x HS.out).mono ?_
  rintro e w2 ⟨rfl, hd⟩
  go_wp2_with fail
  go_end0
  exact ⟨rfl, hd⟩
set_option maxHeartbeats 4000000 in
set_option maxRecDepth 100000 in
theorem cloTypeE {w0 : World} (htab : Lib.TabIs Tryz.prog w0 "internal/strconv.uint64pow10" .u64 Lib.pow10Tab) (f : Nat) {B : Nat} {w : World} {T : List UInt8} {S : List Nd} (v : Value) (x : Px.TypeE) (hv : NodeV w0 w v (Nd.typ f x)) (h : St w0 B w T S) (hs : Small T S (step (Nd.typ f x))) : Does w0 B w T S v (step (Nd.typ f x)) := by
  obtain ⟨wb, pb, u, rfl, h1, h2, h3⟩ := hv
  refine ⟨134, _, rfl, enters_of Tryz.func134 (by kernel_rfl) rfl, ?_⟩
  show Calls Tryz.prog 134 #[.pointer (some ⟨B, 0, none⟩), .pointer (some ⟨wb, 0, none⟩), .pointer (some ⟨pb, 0, none⟩)] w (Did w0 B T S (step (Nd.typ f x)))
  obtain ⟨i0, t1, q2, n2, c2, rfl⟩ := (isTypeE) u x h3
  have y := ent_cell h1 0 (.func (.func 30) #[] #[]) rfl
  have y0 := ent_cell h2 0 (.int .i64 i0) rfl
  have y1 := ent_cell h2 1 (.string t1) rfl
  have y2 := ent_cell h2 2 (.slice q2 n2 c2) rfl
  have H := Lib.hid h
  have HS := Lib.hid hs
  have HU := Lib.hid h3
  clear h hs h1 h2 h3
  go_enter Tryz.func134, Tryz.ntmps134
  go_wp2_with fail
  refine (typeN f _ x HU.out H.out HS.out).mono ?_
  rintro e w2 ⟨rfl, hd⟩
  go_wp2_with fail
  go_end0
  exact ⟨rfl, hd⟩
set_option maxHeartbeats 4000000 in
set_option maxRecDepth 100000 in
theorem cloPat {w0 : World} (htab : Lib.TabIs Tryz.prog w0 "internal/strconv.uint64pow10" .u64 Lib.pow10Tab) (f : Nat) {B : Nat} {w : World} {T : List UInt8} {S : List Nd} (v : Value) (x : Px.Pat) (hv : NodeV w0 w v (Nd.pat f x)) (h : St w0 B w T S) (hs : Small T S (step (Nd.pat f x))) : Does w0 B w T S v (step (Nd.pat f x)) := by
  obtain ⟨wb, pb, u, rfl, h1, h2, h3⟩ := hv
  refine ⟨149, _, rfl, enters_of Tryz.func149 (by kernel_rfl) rfl, ?_⟩
  show Calls Tryz.prog 149 #[.pointer (some ⟨B, 0, none⟩), .pointer (some ⟨wb, 0, none⟩), .pointer (some ⟨pb, 0, none⟩)] w (Did w0 B T S (step (Nd.pat f x)))
  obtain ⟨i0, i1, t2, i3, q4, n4, c4, rfl⟩ := (isPat) u x h3
  have y := ent_cell h1 0 (.func (.func 75) #[] #[]) rfl
  have y0 := ent_cell h2 0 (.int .i64 i0) rfl
  have y1 := ent_cell h2 1 (.int .i64 i1) rfl
  have y2 := ent_cell h2 2 (.string t2) rfl
  have y3 := ent_cell h2 3 (.int .i64 i3) rfl
  have y4 := ent_cell h2 4 (.slice q4 n4 c4) rfl
  have H := Lib.hid h
  have HS := Lib.hid hs
  have HU := Lib.hid h3
  clear h hs h1 h2 h3
  go_enter Tryz.func149, Tryz.ntmps149
  go_wp2_with fail
  refine (patN htab f _ x HU.out H.out HS.out).mono ?_
  rintro e w2 ⟨rfl, hd⟩
  go_wp2_with fail
  go_end0
  exact ⟨rfl, hd⟩
set_option maxHeartbeats 4000000 in
set_option maxRecDepth 100000 in
theorem cloExpr {w0 : World} (htab : Lib.TabIs Tryz.prog w0 "internal/strconv.uint64pow10" .u64 Lib.pow10Tab) (f : Nat) {B : Nat} {w : World} {T : List UInt8} {S : List Nd} (v : Value) (x : Px.Expr) (hv : NodeV w0 w v (Nd.expr f x)) (h : St w0 B w T S) (hs : Small T S (step (Nd.expr f x))) : Does w0 B w T S v (step (Nd.expr f x)) := by
  obtain ⟨wb, pb, u, rfl, h1, h2, h3⟩ := hv
  refine ⟨104, _, rfl, enters_of Tryz.func104 (by kernel_rfl) rfl, ?_⟩
  show Calls Tryz.prog 104 #[.pointer (some ⟨B, 0, none⟩), .pointer (some ⟨wb, 0, none⟩), .pointer (some ⟨pb, 0, none⟩)] w (Did w0 B T S (step (Nd.expr f x)))
  obtain ⟨i0, i1, t2, i3, q4, n4, c4, q5, n5, c5, q6, n6, c6, rfl⟩ := (isExpr) u x h3
  have y := ent_cell h1 0 (.func (.func 34) #[] #[]) rfl
  have y0 := ent_cell h2 0 (.int .i64 i0) rfl
  have y1 := ent_cell h2 1 (.int .i64 i1) rfl
  have y2 := ent_cell h2 2 (.string t2) rfl
  have y3 := ent_cell h2 3 (.int .i64 i3) rfl
  have y4 := ent_cell h2 4 (.slice q4 n4 c4) rfl
  have y5 := ent_cell h2 5 (.slice q5 n5 c5) rfl
  have y6 := ent_cell h2 6 (.slice q6 n6 c6) rfl
  have H := Lib.hid h
  have HS := Lib.hid hs
  have HU := Lib.hid h3
  clear h hs h1 h2 h3
  go_enter Tryz.func104, Tryz.ntmps104
  go_wp2_with fail
  refine (exprN htab f _ x HU.out H.out HS.out).mono ?_
  rintro e w2 ⟨rfl, hd⟩
  go_wp2_with fail
  go_end0
  exact ⟨rfl, hd⟩
set_option maxHeartbeats 4000000 in
set_option maxRecDepth 100000 in
theorem cloCon {w0 : World} (htab : Lib.TabIs Tryz.prog w0 "internal/strconv.uint64pow10" .u64 Lib.pow10Tab) (f : Nat) {B : Nat} {w : World} {T : List UInt8} {S : List Nd} (v : Value) (x : Px.Con) (hv : NodeV w0 w v (Nd.con f x)) (h : St w0 B w T S) (hs : Small T S (step (Nd.con f x))) : Does w0 B w T S v (step (Nd.con f x)) := by
  obtain ⟨wb, pb, u, rfl, h1, h2, h3⟩ := hv
  refine ⟨101, _, rfl, enters_of Tryz.func101 (by kernel_rfl) rfl, ?_⟩
  show Calls Tryz.prog 101 #[.pointer (some ⟨B, 0, none⟩), .pointer (some ⟨wb, 0, none⟩), .pointer (some ⟨pb, 0, none⟩)] w (Did w0 B T S (step (Nd.con f x)))
  obtain ⟨i0, t1, q2, n2, c2, rfl⟩ := (isCon) u x h3
  have y := ent_cell h1 0 (.func (.func 59) #[] #[]) rfl
  have y0 := ent_cell h2 0 (.int .i64 i0) rfl
  have y1 := ent_cell h2 1 (.string t1) rfl
  have y2 := ent_cell h2 2 (.slice q2 n2 c2) rfl
  have H := Lib.hid h
  have HS := Lib.hid hs
  have HU := Lib.hid h3
  clear h hs h1 h2 h3
  go_enter Tryz.func101, Tryz.ntmps101
  go_wp2_with fail
  refine (conN f _ x HU.out H.out HS.out).mono ?_
  rintro e w2 ⟨rfl, hd⟩
  go_wp2_with fail
  go_end0
  exact ⟨rfl, hd⟩
set_option maxHeartbeats 4000000 in
set_option maxRecDepth 100000 in
theorem cloAlt {w0 : World} (htab : Lib.TabIs Tryz.prog w0 "internal/strconv.uint64pow10" .u64 Lib.pow10Tab) (f : Nat) {B : Nat} {w : World} {T : List UInt8} {S : List Nd} (v : Value) (x : Px.Pat × Px.Expr) (hv : NodeV w0 w v (Nd.alt f x)) (h : St w0 B w T S) (hs : Small T S (step (Nd.alt f x))) : Does w0 B w T S v (step (Nd.alt f x)) := by
  obtain ⟨wb, pb, u, rfl, h1, h2, h3⟩ := hv
  refine ⟨107, _, rfl, enters_of Tryz.func107 (by kernel_rfl) rfl, ?_⟩
  show Calls Tryz.prog 107 #[.pointer (some ⟨B, 0, none⟩), .pointer (some ⟨wb, 0, none⟩), .pointer (some ⟨pb, 0, none⟩)] w (Did w0 B T S (step (Nd.alt f x)))
  obtain ⟨i0, i1, t2, i3, q4, n4, c4, i5, i6, t7, i8, q9, n9, c9, q10, n10, c10, q11, n11, c11, rfl⟩ := (isAlt) u x h3
  have y := ent_cell h1 0 (.func (.func 70) #[] #[]) rfl
  have y0 := ent_cell h2 0 (.int .i64 i0) rfl
  have y1 := ent_cell h2 1 (.int .i64 i1) rfl
  have y2 := ent_cell h2 2 (.string t2) rfl
  have y3 := ent_cell h2 3 (.int .i64 i3) rfl
  have y4 := ent_cell h2 4 (.slice q4 n4 c4) rfl
  have y5 := ent_cell h2 5 (.int .i64 i5) rfl
  have y6 := ent_cell h2 6 (.int .i64 i6) rfl
  have y7 := ent_cell h2 7 (.string t7) rfl
  have y8 := ent_cell h2 8 (.int .i64 i8) rfl
  have y9 := ent_cell h2 9 (.slice q9 n9 c9) rfl
  have y10 := ent_cell h2 10 (.slice q10 n10 c10) rfl
  have y11 := ent_cell h2 11 (.slice q11 n11 c11) rfl
  have H := Lib.hid h
  have HS := Lib.hid hs
  have HU := Lib.hid h3
  clear h hs h1 h2 h3
  go_enter Tryz.func107, Tryz.ntmps107
  go_wp2_with fail
  refine (altN f _ x HU.out H.out HS.out).mono ?_
  rintro e w2 ⟨rfl, hd⟩
  go_wp2_with fail
  go_end0
  exact ⟨rfl, hd⟩
set_option maxHeartbeats 4000000 in
set_option maxRecDepth 100000 in
theorem cloBind {w0 : World} (htab : Lib.TabIs Tryz.prog w0 "internal/strconv.uint64pow10" .u64 Lib.pow10Tab) (f : Nat) {B : Nat} {w : World} {T : List UInt8} {S : List Nd} (v : Value) (x : List UInt8 × Px.Expr) (hv : NodeV w0 w v (Nd.pair f x)) (h : St w0 B w T S) (hs : Small T S (step (Nd.pair f x))) : Does w0 B w T S v (step (Nd.pair f x)) := by
  obtain ⟨wb, pb, u, rfl, h1, h2, h3⟩ := hv
  refine ⟨136, _, rfl, enters_of Tryz.func136 (by kernel_rfl) rfl, ?_⟩
  show Calls Tryz.prog 136 #[.pointer (some ⟨B, 0, none⟩), .pointer (some ⟨wb, 0, none⟩), .pointer (some ⟨pb, 0, none⟩)] w (Did w0 B T S (step (Nd.pair f x)))
  obtain ⟨t0, i1, i2, t3, i4, q5, n5, c5, q6, n6, c6, q7, n7, c7, rfl⟩ := (isBind) u x h3
  have y := ent_cell h1 0 (.func (.func 68) #[] #[]) rfl
  have y0 := ent_cell h2 0 (.string t0) rfl
  have y1 := ent_cell h2 1 (.int .i64 i1) rfl
  have y2 := ent_cell h2 2 (.int .i64 i2) rfl
  have y3 := ent_cell h2 3 (.string t3) rfl
  have y4 := ent_cell h2 4 (.int .i64 i4) rfl
  have y5 := ent_cell h2 5 (.slice q5 n5 c5) rfl
  have y6 := ent_cell h2 6 (.slice q6 n6 c6) rfl
  have y7 := ent_cell h2 7 (.slice q7 n7 c7) rfl
  have H := Lib.hid h
  have HS := Lib.hid hs
  have HU := Lib.hid h3
  clear h hs h1 h2 h3
  go_enter Tryz.func136, Tryz.ntmps136
  go_wp2_with fail
  refine (pairN f _ x HU.out H.out HS.out).mono ?_
  rintro e w2 ⟨rfl, hd⟩
  go_wp2_with fail
  go_end0
  exact ⟨rfl, hd⟩
set_option maxHeartbeats 4000000 in
set_option maxRecDepth 100000 in
theorem cloData {w0 : World} (htab : Lib.TabIs Tryz.prog w0 "internal/strconv.uint64pow10" .u64 Lib.pow10Tab) (f : Nat) {B : Nat} {w : World} {T : List UInt8} {S : List Nd} (v : Value) (x : Px.Data) (hv : NodeV w0 w v (Nd.data f x)) (h : St w0 B w T S) (hs : Small T S (step (Nd.data f x))) : Does w0 B w T S v (step (Nd.data f x)) := by
  obtain ⟨wb, pb, u, rfl, h1, h2, h3⟩ := hv
  refine ⟨129, _, rfl, enters_of Tryz.func129 (by kernel_rfl) rfl, ?_⟩
  show Calls Tryz.prog 129 #[.pointer (some ⟨B, 0, none⟩), .pointer (some ⟨wb, 0, none⟩), .pointer (some ⟨pb, 0, none⟩)] w (Did w0 B T S (step (Nd.data f x)))
  obtain ⟨i0, t1, q2, n2, c2, q3, n3, c3, rfl⟩ := (isData) u x h3
  have y := ent_cell h1 0 (.func (.func 28) #[] #[]) rfl
  have y0 := ent_cell h2 0 (.int .i64 i0) rfl
  have y1 := ent_cell h2 1 (.string t1) rfl
  have y2 := ent_cell h2 2 (.slice q2 n2 c2) rfl
  have y3 := ent_cell h2 3 (.slice q3 n3 c3) rfl
  have H := Lib.hid h
  have HS := Lib.hid hs
  have HU := Lib.hid h3
  clear h hs h1 h2 h3
  go_enter Tryz.func129, Tryz.ntmps129
  go_wp2_with fail
  refine (dataN f _ x HU.out H.out HS.out).mono ?_
  rintro e w2 ⟨rfl, hd⟩
  go_wp2_with fail
  go_end0
  exact ⟨rfl, hd⟩
set_option maxHeartbeats 4000000 in
set_option maxRecDepth 100000 in
theorem cloDef {w0 : World} (htab : Lib.TabIs Tryz.prog w0 "internal/strconv.uint64pow10" .u64 Lib.pow10Tab) (f : Nat) {B : Nat} {w : World} {T : List UInt8} {S : List Nd} (v : Value) (x : Px.Def) (hv : NodeV w0 w v (Nd.defn f x)) (h : St w0 B w T S) (hs : Small T S (step (Nd.defn f x))) : Does w0 B w T S v (step (Nd.defn f x)) := by
  obtain ⟨wb, pb, u, rfl, h1, h2, h3⟩ := hv
  refine ⟨135, _, rfl, enters_of Tryz.func135 (by kernel_rfl) rfl, ?_⟩
  show Calls Tryz.prog 135 #[.pointer (some ⟨B, 0, none⟩), .pointer (some ⟨wb, 0, none⟩), .pointer (some ⟨pb, 0, none⟩)] w (Did w0 B T S (step (Nd.defn f x)))
  obtain ⟨i0, t1, q2, n2, c2, i3, i4, t5, i6, q7, n7, c7, q8, n8, c8, q9, n9, c9, rfl⟩ := (isDef) u x h3
  have y := ent_cell h1 0 (.func (.func 32) #[] #[]) rfl
  have y0 := ent_cell h2 0 (.int .i64 i0) rfl
  have y1 := ent_cell h2 1 (.string t1) rfl
  have y2 := ent_cell h2 2 (.slice q2 n2 c2) rfl
  have y3 := ent_cell h2 3 (.int .i64 i3) rfl
  have y4 := ent_cell h2 4 (.int .i64 i4) rfl
  have y5 := ent_cell h2 5 (.string t5) rfl
  have y6 := ent_cell h2 6 (.int .i64 i6) rfl
  have y7 := ent_cell h2 7 (.slice q7 n7 c7) rfl
  have y8 := ent_cell h2 8 (.slice q8 n8 c8) rfl
  have y9 := ent_cell h2 9 (.slice q9 n9 c9) rfl
  have H := Lib.hid h
  have HS := Lib.hid hs
  have HU := Lib.hid h3
  clear h hs h1 h2 h3
  go_enter Tryz.func135, Tryz.ntmps135
  go_wp2_with fail
  refine (defN f _ x HU.out H.out HS.out).mono ?_
  rintro e w2 ⟨rfl, hd⟩
  go_wp2_with fail
  go_end0
  exact ⟨rfl, hd⟩
set_option maxHeartbeats 4000000 in
set_option maxRecDepth 100000 in
theorem cloTree {w0 : World} (htab : Lib.TabIs Tryz.prog w0 "internal/strconv.uint64pow10" .u64 Lib.pow10Tab) (f : Nat) {B : Nat} {w : World} {T : List UInt8} {S : List Nd} (v : Value) (x : Tr) (hv : NodeV w0 w v (Nd.tree f x)) (h : St w0 B w T S) (hs : Small T S (step (Nd.tree f x))) : Does w0 B w T S v (step (Nd.tree f x)) := by
  obtain ⟨wb, pb, u, rfl, h1, h2, h3⟩ := hv
  refine ⟨142, _, rfl, enters_of Tryz.func142 (by kernel_rfl) rfl, ?_⟩
  show Calls Tryz.prog 142 #[.pointer (some ⟨B, 0, none⟩), .pointer (some ⟨wb, 0, none⟩), .pointer (some ⟨pb, 0, none⟩)] w (Did w0 B T S (step (Nd.tree f x)))
  obtain ⟨t0, i1, i2, i3, q4, n4, c4, rfl⟩ := (isTree) u x h3
  have y := ent_cell h1 0 (.func (.func 39) #[] #[]) rfl
  have y0 := ent_cell h2 0 (.string t0) rfl
  have y1 := ent_cell h2 1 (.int .i64 i1) rfl
  have y2 := ent_cell h2 2 (.int .i64 i2) rfl
  have y3 := ent_cell h2 3 (.int .i64 i3) rfl
  have y4 := ent_cell h2 4 (.slice q4 n4 c4) rfl
  have H := Lib.hid h
  have HS := Lib.hid hs
  have HU := Lib.hid h3
  clear h hs h1 h2 h3
  go_enter Tryz.func142, Tryz.ntmps142
  go_wp2_with fail
  refine (treeN htab f _ x HU.out H.out HS.out).mono ?_
  rintro e w2 ⟨rfl, hd⟩
  go_wp2_with fail
  go_end0
  exact ⟨rfl, hd⟩
set_option maxHeartbeats 4000000 in
set_option maxRecDepth 100000 in
theorem cloNames {w0 : World} {B : Nat} {w : World} {T : List UInt8} {S : List Nd} (v : Value) (l : List (List UInt8)) (hv : NodeV w0 w v (Nd.names l)) (h : St w0 B w T S) (hs : Small T S (step (Nd.names l))) : Does w0 B w T S v (step (Nd.names l)) := by
  obtain ⟨pb, wb, q, n, c, rfl, h1, h2, h3⟩ := hv
  refine ⟨133, _, rfl, enters_of Tryz.func133 (by kernel_rfl) rfl, ?_⟩
  show Calls Tryz.prog 133 #[.pointer (some ⟨B, 0, none⟩), .pointer (some ⟨pb, 0, none⟩), .pointer (some ⟨wb, 0, none⟩)] w (Did w0 B T S (step (Nd.names l)))
  simp only [step] at hs ⊢
  have y1 := ent_cell h1 0 (.slice q n c) rfl
  have y2 := ent_cell h2 0 (.func (.func 71) #[] #[]) rfl
  have H := Lib.hid h
  have HS := Lib.hid hs
  have HR0 := Lib.hid h3
  have EX := Lib.hid h1
  have HB := Lib.hid (Below.refl w.heap.size w)
  have HN : Hid (l.length ≤ 1000000) := Lib.hid (by have := hs.2; have h2 := weave_len (l.map (.word)); simp only [List.length_append, List.length_cons, List.length_map, List.length_nil] at this h2; omega)
  clear h hs h1 h2 h3
  go_enter Tryz.func133, Tryz.ntmps133
  go_wp2_with fail
  refine (allStr_any (StrIs) (fun u x hu => ⟨_, hu⟩) (.slice q n c) l 71 w (row_below HR0.out (H.out.base)) (HN.out)).mono ?_
  rintro e u1 ⟨rv, vs1, rfl, hb, hown, hrr⟩
  obtain ⟨p1, c1, rfl⟩ := own_sl hown
  have hbb : Below w.heap.size w u1 := hb
  have HR1 : Hid (Reps (NodeV w0 u1) vs1 (l.map Nd.word)) := Lib.hid (reps_map (rep' := NodeV w0 u1) (mk := .word) (fun v x hv => hv) hrr)
  have HV1 : Hid (VRow w.heap.size u1 (.slice p1 l.length c1) vs1) := Lib.hid (own_vrowN hown (HB.out.size) HR1.out)
  replace HB := Lib.hid (HB.out.trans (hbb.mono HB.out.size))
  replace EX := Lib.hid (ent_below EX.out hbb)
  clear hb hown hrr hbb
  go_wp2_with fail
  have hb4 : Below u1.heap.size u1 (u1.alloc (.cells #[.slice p1 l.length c1] 120)) := (Below.refl _ _).alloc (Nat.le_refl _) _
  refine (listN H.out (HB.out.trans (hb4.mono HB.out.size)) _ _ _ [vs1] [(l.map Nd.word)] (l.map Nd.word) (by simp)
    (grow_of (lo := w.heap.size) (ls := [vs1]) (wk := u1) (ss := [.slice p1 l.length c1]) ⟨HV1.out, trivial⟩ HB.out.size (by simp) rfl rfl) ⟨reps_keep hb4 HR1.out, trivial⟩ HS.out (by simp)).mono ?_
  rintro e wz ⟨⟨rfl, hd⟩, hkp⟩
  go_wp2_with fail
  go_end0
  exact ⟨rfl, hd⟩
set_option maxHeartbeats 4000000 in
set_option maxRecDepth 100000 in
theorem cloPairs {w0 : World} (f : Nat) {B : Nat} {w : World} {T : List UInt8} {S : List Nd} (v : Value) (l : List (List UInt8 × Px.Expr)) (hv : NodeV w0 w v (Nd.pairs f l)) (h : St w0 B w T S) (hs : Small T S (step (Nd.pairs f l))) : Does w0 B w T S v (step (Nd.pairs f l)) := by
  obtain ⟨pb, wb, q, n, c, rfl, h1, h2, h3⟩ := hv
  refine ⟨105, _, rfl, enters_of Tryz.func105 (by kernel_rfl) rfl, ?_⟩
  show Calls Tryz.prog 105 #[.pointer (some ⟨B, 0, none⟩), .pointer (some ⟨pb, 0, none⟩), .pointer (some ⟨wb, 0, none⟩)] w (Did w0 B T S (step (Nd.pairs f l)))
  simp only [step] at hs ⊢
  have y1 := ent_cell h1 0 (.slice q n c) rfl
  have y2 := ent_cell h2 0 (.func (.func 68) #[] #[]) rfl
  have H := Lib.hid h
  have HS := Lib.hid hs
  have HR0 := Lib.hid h3
  have EX := Lib.hid h1
  have HB := Lib.hid (Below.refl w.heap.size w)
  have HN : Hid (l.length ≤ 1000000) := Lib.hid (by have := hs.2; have h2 := weave_len (l.map (.pair f)); simp only [List.length_append, List.length_cons, List.length_map, List.length_nil] at this h2; omega)
  clear h hs h1 h2 h3
  go_enter Tryz.func105, Tryz.ntmps105
  go_wp2_with fail
  refine (allBind_any (PairG f w0) (isBind) (.slice q n c) l 68 w (HR0.out.row) (HN.out)).mono ?_
  rintro e u1 ⟨rv, vs1, rfl, hb, hown, hrr⟩
  obtain ⟨p1, c1, rfl⟩ := own_sl hown
  have hbb : Below w.heap.size w u1 := hb
  have HR1 : Hid (Reps (NodeV w0 u1) vs1 (l.map (.pair f))) := Lib.hid (reps_map (rep' := NodeV w0 u1) (mk := .pair f) (fun v x hv => hv) hrr)
  have HV1 : Hid (VRow w.heap.size u1 (.slice p1 l.length c1) vs1) := Lib.hid (own_vrowN hown (HB.out.size) HR1.out)
  replace HB := Lib.hid (HB.out.trans (hbb.mono HB.out.size))
  replace EX := Lib.hid (ent_below EX.out hbb)
  clear hb hown hrr hbb
  go_wp2_with fail
  have hb4 : Below u1.heap.size u1 (u1.alloc (.cells #[.slice p1 l.length c1] 120)) := (Below.refl _ _).alloc (Nat.le_refl _) _
  refine (listN H.out (HB.out.trans (hb4.mono HB.out.size)) _ _ _ [vs1] [(l.map (.pair f))] (l.map (.pair f)) (by simp)
    (grow_of (lo := w.heap.size) (ls := [vs1]) (wk := u1) (ss := [.slice p1 l.length c1]) ⟨HV1.out, trivial⟩ HB.out.size (by simp) rfl rfl) ⟨reps_keep hb4 HR1.out, trivial⟩ HS.out (by simp)).mono ?_
  rintro e wz ⟨⟨rfl, hd⟩, hkp⟩
  go_wp2_with fail
  go_end0
  exact ⟨rfl, hd⟩
theorem exec_any {w0 : World} (htab : Lib.TabIs Tryz.prog w0 "internal/strconv.uint64pow10" .u64 Lib.pow10Tab) {B : Nat} {w : World} {T : List UInt8} {S : List Nd} (v : Value) (n : Nd) (hv : NodeV w0 w v n) (h : St w0 B w T S) (hs : Small T S (step n)) : Does w0 B w T S v (step n) := by
  cases n with
  | blank =>
    obtain ⟨vs, h1, h2, h3⟩ := h
    exact ⟨_, #[], hv, enters_of Tryz.func98 (by kernel_rfl) rfl, (blank_any h1 (by have := hs.1; simp only [step, List.length_append] at this; omega)).mono fun e w' hw => did_text h2 h3 hw⟩
  | fin =>
    obtain ⟨vs, h1, h2, h3⟩ := h
    exact ⟨_, #[], hv, enters_of Tryz.func95 (by kernel_rfl) rfl, (end_any h1 (by have := hs.1; simp only [step, List.length_append] at this; omega)).mono fun e w' hw => did_text h2 h3 hw⟩
  | word s => exact cloStr htab v s hv h hs
  | typ f t => exact cloTypeE htab f v t hv h hs
  | pat f p => exact cloPat htab f v p hv h hs
  | expr f x => exact cloExpr htab f v x hv h hs
  | alt f a => exact cloAlt htab f v a hv h hs
  | pair f b => exact cloBind htab f v b hv h hs
  | names l => exact cloNames v l hv h hs
  | pairs f l => exact cloPairs f v l hv h hs
  | con f c => exact cloCon htab f v c hv h hs
  | data f d => exact cloData htab f v d hv h hs
  | defn f d => exact cloDef htab f v d hv h hs
  | tree f t => exact cloTree htab f v t hv h hs
end Sw
end Go.Proofs.YtnhndamfbeiljaaGreatDoor
