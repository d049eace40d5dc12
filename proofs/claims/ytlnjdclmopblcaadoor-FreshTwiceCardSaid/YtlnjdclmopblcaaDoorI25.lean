import Derived.Test.YtlnjdclmopblcaaDoorI24
import Derived.Deep.DeepCutAuto
import Derived.Test.YtlnjdclmopblcaaDoorCards
import Derived.Test.YtlnjdclmopblcaaDoorTie
import Derived.WalkKit
import Derived.ProofKit
import Derived.OpenShut
import Derived.ShutString
import Derived.ChangeOld
import Derived.Deep.DeepHandedRow
import Derived.Deep.DeepWitnessRowRef
import Derived.Lib.LaidTab
import Derived.Lib.AppendIntMem
import Derived.Stop.LaidErr
set_option linter.unusedVariables false
set_option linter.unusedSimpArgs false
set_option maxHeartbeats 40000000
set_option maxRecDepth 100000
namespace Go.Proofs.YtlnjdclmopblcaaDoor
open Go Go.RowKit
open Go.Lib (hid)
theorem dC (x y : Px.Def) (v u : Value) (w : World) (hx : ZC 50 w v x) (hy : ZC 50 w u y) (hw : x.params.length + Sx.ew 50 x.body <= 40000000) (hw' : Sx.ew 50 y.body <= 40000000) :
 Calls Tryd.prog 10 #[v, u] w fun e w' => e = .returned (.bool (decide (x.name = y.name /\ x.params.length = y.params.length) && Fr.QV 50 x.body y.body (List.zip x.params y.params))) /\ Below w.heap.size w w' := by
 cases x with | mk p nm ps bo =>
 cases y with | mk p' yX ps' CR =>
 obtain ⟨nv, b0, b1, b2, b3, b4, b5, b6, rfl, h1, h2⟩ := hx; obtain ⟨jG0, d0, d1, d2, d3, d4, d5, d6, rfl, h1', h2'⟩ := hy; obtain ⟨q1, c1, rfl⟩ := h1.len; obtain ⟨r1, e1, rfl⟩ := h1'.len
 dsimp only at *
 have HR := hid h1; have HS := hid h1'; have HX := hid h2; have HY := hid h2'; have HW := hid hw; have OU := hid hw'
 clear h1 h1' h2 h2' hw hw'; go_enter Tryd.func10, Tryd.ntmps10; have EA := hid ((jM (jb w #[.int .i64 p, .string ⟨nm.toArray⟩, .slice q1 ps.length c1, b0, b1, b2, b3, b4, b5, b6] 40) ((jD (w.alloc (.cells #[.int .i64 p, .string ⟨nm.toArray⟩, .slice q1 ps.length c1, b0, b1, b2, b3, b4, b5, b6] 40)).heap.size (w.alloc (.cells #[.int .i64 p, .string ⟨nm.toArray⟩, .slice q1 ps.length c1, b0, b1, b2, b3, b4, b5, b6] 40))).alloc (jB _) (.cells #[.int .i64 p', .string ⟨yX.toArray⟩, .slice r1 ps'.length e1, d0, d1, d2, d3, d4, d5, d6] 40)))); have EB := hid (jb (w.alloc (.cells #[.int .i64 p, .string ⟨nm.toArray⟩, .slice q1 ps.length c1, b0, b1, b2, b3, b4, b5, b6] 40)) #[.int .i64 p', .string ⟨yX.toArray⟩, .slice r1 ps'.length e1, d0, d1, d2, d3, d4, d5, d6] 40); have HB := hid (((jD w.heap.size w).alloc (jB _) (.cells #[.int .i64 p, .string ⟨nm.toArray⟩, .slice q1 ps.length c1, b0, b1, b2, b3, b4, b5, b6] 40)).alloc (by simp) (.cells #[.int .i64 p', .string ⟨yX.toArray⟩, .slice r1 ps'.length e1, d0, d1, d2, d3, d4, d5, d6] 40)); have hsa : (w.alloc (.cells #[.int .i64 p, .string ⟨nm.toArray⟩, .slice q1 ps.length c1, b0, b1, b2, b3, b4, b5, b6] 40)).heap.size = w.heap.size + 1 := by simp
 rw [hsa] at EB; clear hsa; have hsz : w.heap.size + 2 <= ((w.alloc (.cells #[.int .i64 p, .string ⟨nm.toArray⟩, .slice q1 ps.length c1, b0, b1, b2, b3, b4, b5, b6] 40)).alloc (.cells #[.int .i64 p', .string ⟨yX.toArray⟩, .slice r1 ps'.length e1, d0, d1, d2, d3, d4, d5, d6] 40)).heap.size := by simp
 go_upto_region 1 with fail
 generalize (w.alloc (.cells #[.int .i64 p, .string ⟨nm.toArray⟩, .slice q1 ps.length c1, b0, b1, b2, b3, b4, b5, b6] 40)).alloc (.cells #[.int .i64 p', .string ⟨yX.toArray⟩, .slice r1 ps'.length e1, d0, d1, d2, d3, d4, d5, d6] 40) = w1 at EA EB HB hsz ⊢; by_cases hn : nm = yX
 case neg =>
  have t6 : (nm == yX) = false := qF.2 hn; have HF := hid (show (decide (nm = yX /\ ps.length = ps'.length) && Fr.QV 50 bo CR (List.zip ps ps')) = false by rw [jl (fun h => hn h.1), JV]); clear hn; refine jU (S := fun w' => Below w1.heap.size w1 w') (by kernel_rfl) ((jD _ _).drew) (fun hHeld => ?_); refine wS 0 (.pointer (some ⟨w.heap.size, 1, none⟩)) rfl hHeld ?_; refine wT 1 (.string ⟨nm.toArray⟩) rfl (Or.inl ⟨by rfl, fun w' hSw => by have e := jM EA hSw; have h1 := xK e 1 rfl; go_simp⟩) hHeld ?_; refine wS 2 (.pointer (some ⟨w.heap.size + 1, 1, none⟩)) rfl hHeld ?_; refine wT 3 (.string ⟨yX.toArray⟩) rfl (Or.inl ⟨by rfl, fun w' hSw => by have e := jM EB hSw; have h1 := xK e 1 rfl; go_simp⟩) hHeld ?_; refine wS 4 (.bool false) rfl hHeld ?_; refine wS 5 (.bool false) rfl hHeld ?_; refine wT 6 (undef) rfl (Or.inr ⟨(by first | (go_simp; done) | (go_simp; simp; done) | (go_simp; intro h; cases h)), rfl⟩) hHeld ?_; simp only [aP]; refine wT 7 (undef) rfl (Or.inr ⟨(by first | (go_simp; done) | (go_simp; simp; done) | (go_simp; intro h; cases h)), rfl⟩) hHeld ?_; simp only [aP]; refine wT 8 (undef) rfl (Or.inr ⟨(by first | (go_simp; done) | (go_simp; simp; done) | (go_simp; intro h; cases h)), rfl⟩) hHeld ?_; simp only [aP]; refine wT 9 (undef) rfl (Or.inr ⟨(by first | (go_simp; done) | (go_simp; simp; done) | (go_simp; intro h; cases h)), rfl⟩) hHeld ?_; simp only [aP]; refine wT 10 (undef) rfl (Or.inr ⟨(by first | (go_simp; done) | (go_simp; simp; done) | (go_simp; intro h; cases h)), rfl⟩) hHeld ?_; simp only [aP]; refine wT 11 (undef) rfl (Or.inr ⟨(by first | (go_simp; done) | (go_simp; simp; done) | (go_simp; intro h; cases h)), rfl⟩) hHeld ?_; simp only [aP]; refine wT 12 (undef) rfl (Or.inr ⟨(by first | (go_simp; done) | (go_simp; simp; done) | (go_simp; intro h; cases h)), rfl⟩) hHeld ?_; simp only [aP]; refine wS 13 (.bool false) rfl hHeld ?_; refine wS 14 (.bool false) rfl hHeld ?_; refine wT 15 (undef) rfl (Or.inr ⟨(by first | (go_simp; done) | (go_simp; simp; done) | (go_simp; intro h; cases h)), rfl⟩) hHeld ?_; simp only [aP]; refine wT 16 (undef) rfl (Or.inr ⟨(by first | (go_simp; done) | (go_simp; simp; done) | (go_simp; intro h; cases h)), rfl⟩) hHeld ?_; simp only [aP]; refine wT 17 (undef) rfl (Or.inr ⟨(by first | (go_simp; done) | (go_simp; simp; done) | (go_simp; intro h; cases h)), rfl⟩) hHeld ?_; simp only [aP]; refine wT 18 (undef) rfl (Or.inr ⟨(by first | (go_simp; done) | (go_simp; simp; done) | (go_simp; intro h; cases h)), rfl⟩) hHeld ?_; simp only [aP]; refine wT 19 (undef) rfl (Or.inr ⟨(by first | (go_simp; done) | (go_simp; simp; done) | (go_simp; intro h; cases h)), rfl⟩) hHeld ?_; simp only [aP]; refine wT 20 (undef) rfl (Or.inr ⟨(by first | (go_simp; done) | (go_simp; simp; done) | (go_simp; intro h; cases h)), rfl⟩) hHeld ?_; simp only [aP]; refine wT 21 (undef) rfl (Or.inr ⟨(by first | (go_simp; done) | (go_simp; simp; done) | (go_simp; intro h; cases h)), rfl⟩) hHeld ?_; simp only [aP]; refine wT 22 (undef) rfl (Or.inr ⟨(by first | (go_simp; done) | (go_simp; simp; done) | (go_simp; intro h; cases h)), rfl⟩) hHeld ?_; simp only [aP]; refine wT 23 (undef) rfl (Or.inr ⟨(by first | (go_simp; done) | (go_simp; simp; done) | (go_simp; intro h; cases h)), rfl⟩) hHeld ?_; simp only [aP]; refine wT 24 (undef) rfl (Or.inr ⟨(by first | (go_simp; done) | (go_simp; simp; done) | (go_simp; intro h; cases h)), rfl⟩) hHeld ?_; simp only [aP]; refine wS 25 (.bool false) rfl hHeld ?_; refine wS 26 (.bool false) rfl hHeld ?_; simp only [aP]
  try simp only [aP]
  refine wD ?_; go_wp2_with fail; go_ret; exact ⟨by rw [HF.out]; rfl, HB.out.drew⟩
 have HN := hid hn; have t5 : (⟨nm.toArray⟩ : ByteArray) = ⟨yX.toArray⟩ := by rw [hn]
 clear hn; by_cases hl : ps.length = ps'.length
 case neg =>
  have t7 : ((ps.length : Int) == (ps'.length : Int)) = false := qF.2 (by omega); have HF := hid (show (decide (nm = yX /\ ps.length = ps'.length) && Fr.QV 50 bo CR (List.zip ps ps')) = false by rw [jl (fun h => hl h.2), JV]); clear hl; refine jU (S := fun w' => Below w1.heap.size w1 w') (by kernel_rfl) ((jD _ _).drew) (fun hHeld => ?_); refine wS 0 (.pointer (some ⟨w.heap.size, 1, none⟩)) rfl hHeld ?_; refine wT 1 (.string ⟨nm.toArray⟩) rfl (Or.inl ⟨by rfl, fun w' hSw => by have e := jM EA hSw; have h1 := xK e 1 rfl; go_simp⟩) hHeld ?_; refine wS 2 (.pointer (some ⟨w.heap.size + 1, 1, none⟩)) rfl hHeld ?_; refine wT 3 (.string ⟨yX.toArray⟩) rfl (Or.inl ⟨by rfl, fun w' hSw => by have e := jM EB hSw; have h1 := xK e 1 rfl; go_simp⟩) hHeld ?_; refine wS 4 (.bool true) rfl hHeld ?_; refine wS 5 (.bool true) rfl hHeld ?_; refine wU 6 (.pointer (some ⟨w.heap.size, 2, none⟩)) rfl hHeld ?_; simp only [aP]; refine wT 7 (.slice q1 ps.length c1) rfl (Or.inl ⟨by go_simp, fun w' hSw => by have e := jM EA hSw; have h2 := xK e 2 rfl; go_simp⟩) hHeld ?_; simp only [aP]; refine wU 8 (.int .i64 (ps.length : Int)) rfl hHeld ?_; simp only [aP]; refine wU 9 (.pointer (some ⟨w.heap.size + 1, 2, none⟩)) rfl hHeld ?_; simp only [aP]; refine wT 10 (.slice r1 ps'.length e1) rfl (Or.inl ⟨by go_simp, fun w' hSw => by have e := jM EB hSw; have h2 := xK e 2 rfl; go_simp⟩) hHeld ?_; simp only [aP]; refine wU 11 (.int .i64 (ps'.length : Int)) rfl hHeld ?_; simp only [aP]; refine wU 12 (.bool false) rfl hHeld ?_; simp only [aP]; refine wS 13 (.bool false) rfl hHeld ?_; refine wS 14 (.bool false) rfl hHeld ?_; refine wT 15 (undef) rfl (Or.inr ⟨(by first | (go_simp; done) | (go_simp; simp; done) | (go_simp; intro h; cases h)), rfl⟩) hHeld ?_; simp only [aP]; refine wT 16 (undef) rfl (Or.inr ⟨(by first | (go_simp; done) | (go_simp; simp; done) | (go_simp; intro h; cases h)), rfl⟩) hHeld ?_; simp only [aP]; refine wT 17 (undef) rfl (Or.inr ⟨(by first | (go_simp; done) | (go_simp; simp; done) | (go_simp; intro h; cases h)), rfl⟩) hHeld ?_; simp only [aP]; refine wT 18 (undef) rfl (Or.inr ⟨(by first | (go_simp; done) | (go_simp; simp; done) | (go_simp; intro h; cases h)), rfl⟩) hHeld ?_; simp only [aP]; refine wT 19 (undef) rfl (Or.inr ⟨(by first | (go_simp; done) | (go_simp; simp; done) | (go_simp; intro h; cases h)), rfl⟩) hHeld ?_; simp only [aP]; refine wT 20 (undef) rfl (Or.inr ⟨(by first | (go_simp; done) | (go_simp; simp; done) | (go_simp; intro h; cases h)), rfl⟩) hHeld ?_; simp only [aP]; refine wT 21 (undef) rfl (Or.inr ⟨(by first | (go_simp; done) | (go_simp; simp; done) | (go_simp; intro h; cases h)), rfl⟩) hHeld ?_; simp only [aP]; refine wT 22 (undef) rfl (Or.inr ⟨(by first | (go_simp; done) | (go_simp; simp; done) | (go_simp; intro h; cases h)), rfl⟩) hHeld ?_; simp only [aP]; refine wT 23 (undef) rfl (Or.inr ⟨(by first | (go_simp; done) | (go_simp; simp; done) | (go_simp; intro h; cases h)), rfl⟩) hHeld ?_; simp only [aP]; refine wT 24 (undef) rfl (Or.inr ⟨(by first | (go_simp; done) | (go_simp; simp; done) | (go_simp; intro h; cases h)), rfl⟩) hHeld ?_; simp only [aP]; refine wS 25 (.bool false) rfl hHeld ?_; refine wS 26 (.bool false) rfl hHeld ?_; simp only [aP]
  try simp only [aP]
  refine wD ?_; go_wp2_with fail; go_ret; exact ⟨by rw [HF.out]; rfl, HB.out.drew⟩
 case pos =>
  have t7 : ((ps.length : Int) == (ps'.length : Int)) = true := by simp [hl]
  have HF := hid (show (decide (nm = yX /\ ps.length = ps'.length) && Fr.QV 50 bo CR (List.zip ps ps')) = Fr.QV 50 bo CR (List.zip ps ps') by rw [JL ⟨HN.out, hl⟩, qK]); clear hl; refine jU (S := fun w' => Below w1.heap.size w1 w') (by kernel_rfl) ((jD _ _).drew) (fun hHeld => ?_); refine wS 0 (.pointer (some ⟨w.heap.size, 1, none⟩)) rfl hHeld ?_; refine wT 1 (.string ⟨nm.toArray⟩) rfl (Or.inl ⟨by rfl, fun w' hSw => by have e := jM EA hSw; have h1 := xK e 1 rfl; go_simp⟩) hHeld ?_; refine wS 2 (.pointer (some ⟨w.heap.size + 1, 1, none⟩)) rfl hHeld ?_; refine wT 3 (.string ⟨yX.toArray⟩) rfl (Or.inl ⟨by rfl, fun w' hSw => by have e := jM EB hSw; have h1 := xK e 1 rfl; go_simp⟩) hHeld ?_; refine wS 4 (.bool true) rfl hHeld ?_; refine wS 5 (.bool true) rfl hHeld ?_; refine wU 6 (.pointer (some ⟨w.heap.size, 2, none⟩)) rfl hHeld ?_; simp only [aP]; refine wT 7 (.slice q1 ps.length c1) rfl (Or.inl ⟨by go_simp, fun w' hSw => by have e := jM EA hSw; have h2 := xK e 2 rfl; go_simp⟩) hHeld ?_; simp only [aP]; refine wU 8 (.int .i64 (ps.length : Int)) rfl hHeld ?_; simp only [aP]; refine wU 9 (.pointer (some ⟨w.heap.size + 1, 2, none⟩)) rfl hHeld ?_; simp only [aP]; refine wT 10 (.slice r1 ps'.length e1) rfl (Or.inl ⟨by go_simp, fun w' hSw => by have e := jM EB hSw; have h2 := xK e 2 rfl; go_simp⟩) hHeld ?_; simp only [aP]; refine wU 11 (.int .i64 (ps'.length : Int)) rfl hHeld ?_; simp only [aP]; refine wU 12 (.bool true) rfl hHeld ?_; simp only [aP]; refine wS 13 (.bool true) rfl hHeld ?_; refine wS 14 (.bool true) rfl hHeld ?_; refine wU 15 (.pointer (some ⟨w.heap.size, 3, none⟩)) rfl hHeld ?_; simp only [aP]; refine wT 16 (.agg #[b0, b1, b2, b3, b4, b5, b6]) rfl (Or.inl ⟨by go_simp, fun w' hSw => by have e := jM EA hSw; have h3 := xK e 3 rfl; have h4 := xK e 4 rfl; have h5 := xK e 5 rfl; have h6 := xK e 6 rfl; have h7 := xK e 7 rfl; have h8 := xK e 8 rfl; have h9 := xK e 9 rfl; go_simp⟩) hHeld ?_; simp only [aP]; refine wU 17 (.pointer (some ⟨w.heap.size + 1, 3, none⟩)) rfl hHeld ?_; simp only [aP]; refine wT 18 (.agg #[d0, d1, d2, d3, d4, d5, d6]) rfl (Or.inl ⟨by go_simp, fun w' hSw => by have e := jM EB hSw; have h3 := xK e 3 rfl; have h4 := xK e 4 rfl; have h5 := xK e 5 rfl; have h6 := xK e 6 rfl; have h7 := xK e 7 rfl; have h8 := xK e 8 rfl; have h9 := xK e 9 rfl; go_simp⟩) hHeld ?_; simp only [aP]; refine wU 19 (.pointer (some ⟨w.heap.size, 2, none⟩)) rfl hHeld ?_; simp only [aP]; refine wT 20 (.slice q1 ps.length c1) rfl (Or.inl ⟨by go_simp, fun w' hSw => by have e := jM EA hSw; have h2 := xK e 2 rfl; go_simp⟩) hHeld ?_; simp only [aP]; refine wU 21 (.pointer (some ⟨w.heap.size + 1, 2, none⟩)) rfl hHeld ?_; simp only [aP]; refine wT 22 (.slice r1 ps'.length e1) rfl (Or.inl ⟨by go_simp, fun w' hSw => by have e := jM EB hSw; have h2 := xK e 2 rfl; go_simp⟩) hHeld ?_; simp only [aP]
  try simp only [aP]
  refine wR 23 rfl (fun K hK => ?_); go_simp; refine (U0 _ _ _ [] ps ps' w1.drew (En _ _ _) (JM HR HB.out.drew) (JM HS HB.out.drew) (by have := HW.out; simp; omega)).mono ?_; rintro e w2 ⟨v2, rfl, hb0, hI⟩; have HB2 := hid (show Below w1.heap.size w1 w2 from ((jD _ _).drew).trans (hb0.mono (by simp))); have HI := hid (show uS w2 v2 (List.zip ps ps') from hI); refine hK.out _ _ HB2.out (fun hHeld => ?_); clear hb0 hI; clear hK K; refine wR 24 rfl (fun K hK => ?_); go_simp; refine (Bu 50 bo CR _ _ v2 (List.zip ps ps') w2 (JY HX (HB.out.trans (HB2.out.mono HB.out.size))) (JY HY (HB.out.trans (HB2.out.mono HB.out.size))) HI (by have := HW.out; rw [yh]; omega) OU).mono ?_; rintro e w3 ⟨rfl, hb⟩; have HB3 := bT HB2 hb; refine hK.out _ _ HB3.out (fun hHeld => ?_); clear hb; clear hK K; refine wS 25 (.bool (Fr.QV 50 bo CR (List.zip ps ps'))) rfl hHeld ?_; simp only [aP]; refine wS 26 (.bool (Fr.QV 50 bo CR (List.zip ps ps'))) rfl hHeld ?_; simp only [aP]; refine wD ?_; go_wp2_with fail; go_ret; exact ⟨by rw [HF.out]; rfl, HB.out.trans (HB3.out.mono HB.out.size)⟩
theorem Fr.UW {f : Nat} {w w' : World} {v : Value} {x : Px.Def} (h : ZC f w v x) (hb : Below w.heap.size w w') : ZC f w' v x := by
 obtain ⟨nv, b0, b1, b2, b3, b4, b5, b6, rfl, k1, k2⟩ := h; exact ⟨nv, b0, b1, b2, b3, b4, b5, b6, rfl, JM k1 hb, JY k2 hb⟩
theorem KF (x y : Px.Def) (v u : Value) (w : World) (hx : ZC 50 w v x) (hy : ZC 50 w u y) (hw : x.params.length + Sx.ew 50 x.body <= 40000000) (hw' : Sx.ew 50 y.body <= 40000000) (hs : Fr.vP x y) :
 Calls Tryd.prog 10 #[v, u] w fun e w' => e = .returned (.bool true) /\ Below w.heap.size w w' := by
 have h := dC x y v u w hx hy hw hw'; unfold Fr.vP at hs; rw [hs] at h; exact h
theorem Fr.cells3 {w : World} {t : Nat} {s1 s2 : Value} {T : TypeId} (h : w.heap[t]? = some (.cells #[s1, s2] T (0, 0))) : w.cell? ⟨t, 0, none⟩ = some s1 /\ w.cell? ⟨t, 1, none⟩ = some s2 := ⟨xK h 0 rfl, xK h 1 rfl⟩
set_option linter.constructorNameAsVariable false in
theorem KW (w : World) (htab : ∀ w', Below w.heap.size w w' -> Fr.mO w') (a0 : Option Addr) (n c : Nat) (l : List UInt8) (hs : KE w (.slice a0 n c) l) (hl : l.length = n) (hn : n <= 140737488351232) :
 Calls Tryd.prog 3 #[.slice a0 n c] w fun e w' => e = .returned (.bool true) /\ Below w.heap.size w w' := by
 have HT := hid htab; go_enter Tryd.func3, Tryd.ntmps3; go_wp2_with fail; refine (mD w a0 n c l hs hl hn).mono ?_; clear htab hs hl hn; rintro e w1 ⟨hb1, ⟨v, rfl, hsh⟩ | ⟨v, p, rfl, hp, hpx, hle, hwr⟩⟩
 . obtain ⟨q1, n1, c1, q2, n2, c2, rfl⟩ := hsh; have HB1 := hid (hb1.alloc hb1.size (.cells #[.slice q1 n1 c1, .slice q2 n2 c2] 26)); clear hb1; go_wp2_with fail; refine (kE _ (fun w' hb => HT.out w' (HB1.out.trans (hb.mono HB1.out.size)))).mono ?_; rintro e w2 ⟨rfl, hb2⟩; have HB2 := bT HB1 hb2; clear hb2; go_wp2_with fail; refine (kE _ (fun w' hb => HT.out w' (HB2.out.trans (hb.mono HB2.out.size)))).mono ?_; rintro e w3 ⟨rfl, hb3⟩; have HB3 := bT HB2 hb3; clear hb3; go_wp2_with fail; go_ret; exact ⟨rfl, HB3.out⟩
 have jDC := Fr.jH2 p (Fr.Bf l p hpx hwr) (Fr.EJ l p hpx hle (Fr.uY (Fr.VX hp))); have jDD := Fr.EJ l p hpx hle (Fr.uY (Fr.VX hp)); obtain ⟨q1, c1, q2, c2, rfl⟩ := Zk hp; have oo := Fr.zD (Fr.VX hp) ((jD _ w1).alloc (jB _) (.cells #[.slice q1 p.jF.length c1, .slice q2 p.defs.length c2] 26)); have oq := hb1.alloc hb1.size (.cells #[.slice q1 p.jF.length c1, .slice q2 p.defs.length c2] 26); have hent := jb w1 #[.slice q1 p.jF.length c1, .slice q2 p.defs.length c2] 26; have HB1 := hid oq; have ou : w.heap.size <= w1.heap.size := hb1.size; clear hpx hwr hle hp hb1 oq; go_wp2_with fail; refine (kE _ (fun w' hb => HT.out w' (HB1.out.trans (hb.mono HB1.out.size)))).mono ?_; rintro e w2 ⟨rfl, hb2⟩; have HB2 := bT HB1 hb2; have kT := hid (Fr.zD oo hb2); have U9 := hid (jM hent hb2); obtain ⟨t3, ht3⟩ : ∃ t, t = w1.heap.size := ⟨_, rfl⟩
 have uC := hid jDC; have sK := hid jDD
 rw [<- ht3] at U9 ⊢; clear hb2 oo hent jDC jDD HB1 ou ht3; obtain ⟨A, hA⟩ : ∃ A, A = Fr.prog 50 p := ⟨_, rfl⟩
 rw [<- hA] at uC
 have KG : Hid (∀ wk : World, Below w2.heap.size w2 wk -> Calls Tryd.prog 6 #[.agg #[.slice q1 p.jF.length c1, .slice q2 p.defs.length c2]] wk fun e w' => ∃ v', e = .returned v' /\ Below wk.heap.size wk w' /\ New (Fr.zt 50) wk w' v' A) := hid (fun wk hb => by
  rw [hA]; have hbw := HB2.out.trans (hb.mono HB2.out.size); have hD : p.defs.length <= 62500 := jS (Zz _ _) sK.out.few
  exact Fr.WB (fun w' hb' => HT.out w' (hbw.trans (hb'.mono hbw.size))) 1000000 (by decide) 50 p _ (Fr.zD kT.out hb) (jS hD (by decide)) (jS sK.out.jF (by decide)) sK.out.ok sK.out.mul (jS (Nat.le_add_left _ _) (jS sK.out.few (by decide))))
 clear hA; go_upto_region 4 with fail
 go_cut [5, 6] (fun o5 o6 wx => ∃ (x5 x6 : Nat) (a1 : Option Addr) (a2 : Nat) (a3 : Option Addr) (a4 : Nat) (b1 : Option Addr) (b2 : Nat) (b3 : Option Addr) (b4 : Nat), o5 = .pointer (some ⟨x5, 0, none⟩) /\ o6 = .pointer (some ⟨x6, 0, none⟩) /\
  Hid (wx.heap[x5]? = some (.cells #[.slice a1 A.jF.length a2, .slice a3 A.defs.length a4] 26 (0, 0))) /\ Hid (wx.heap[x6]? = some (.cells #[.slice b1 A.jF.length b2, .slice b3 A.defs.length b4] 26 (0, 0))) /\
  Hid (Below w2.heap.size w2 wx) /\ Hid (Fr.zt 50 wx (.agg #[.slice a1 A.jF.length a2, .slice a3 A.defs.length a4]) A) /\ Hid (Fr.zt 50 wx (.agg #[.slice b1 A.jF.length b2, .slice b3 A.defs.length b4]) A))
 case first =>
  refine jU (S := fun w' => w'.cell? ⟨t3, 0, none⟩ = some (.slice q1 p.jF.length c1) /\ w'.cell? ⟨t3, 1, none⟩ = some (.slice q2 p.defs.length c2)) (by kernel_rfl) (Fr.cells3 U9) (fun hHeld => ?_); have Qh := hid (Fr.TS.start (A := A) U9.out); clear U9; generalize w2.drew = v at Qh hHeld ⊢; refine wT 0 (.agg #[.slice q1 p.jF.length c1, .slice q2 p.defs.length c2]) rfl (Or.inl ⟨by rfl, fun w' hSw => by obtain ⟨s0, s1⟩ := hSw; go_simp⟩) hHeld ?_; simp only [Act.put, jd, JE, JF]; refine wT 2 (.agg #[.slice q1 p.jF.length c1, .slice q2 p.defs.length c2]) rfl (Or.inl ⟨by rfl, fun w' hSw => by obtain ⟨s0, s1⟩ := hSw; go_simp⟩) hHeld ?_; simp only [Act.put, jd, JE, JF]
  iterate 4
   all_goals
    first
    | refine Qt (rs := [1, 4, 5]) (by decide +kernel) (by simp) ?_
      refine Jc rfl (fun K hK => ?_) (Jc rfl (fun K hK => ?_) (Jc rfl (fun K hK => ?_) QZ)); go_simp; refine (KG.out _ Qh.out.below).mono ?_; rintro e v ⟨r, rfl, hb, hnw⟩; obtain ⟨a1, a2, a3, a4, rfl⟩ := Fr.Zd hnw.now; have Qh := hid (Qh.out.FN hb hnw); clear hb hnw; refine hK.out _ _ (Fr.cells3 Qh.out.s3) (fun hHeld => ?_); clear hK K
      rotate_left
      go_simp; have Qh := hid Qh.out.kF; generalize v.heap.size = x5 at Qh ⊢; change K _ (v.alloc (.cells Fr.Z2 26)); generalize v.alloc (.cells Fr.Z2 26) = v at Qh ⊢; refine hK.out _ _ (Fr.cells3 Qh.out.s3) (fun hHeld => ?_); clear hK K
      rotate_left
      go_simp; have Qh := hid Qh.out.kG; generalize v.heap.size = x6 at Qh ⊢; change K _ (v.alloc (.cells Fr.Z2 26)); generalize v.alloc (.cells Fr.Z2 26) = v at Qh ⊢; refine hK.out _ _ (Fr.cells3 Qh.out.s3) (fun hHeld => ?_); clear hK K
      rotate_left
    | refine Qt (rs := [3, 4, 5]) (by decide +kernel) (by simp) ?_
      refine Jc rfl (fun K hK => ?_) (Jc rfl (fun K hK => ?_) (Jc rfl (fun K hK => ?_) QZ)); go_simp; refine (KG.out _ Qh.out.below).mono ?_; rintro e v ⟨r, rfl, hb, hnw⟩; obtain ⟨b1, b2, b3, b4, rfl⟩ := Fr.Zd hnw.now; have Qh := hid (Qh.out.call2 hb hnw); clear hb hnw; refine hK.out _ _ (Fr.cells3 Qh.out.s3) (fun hHeld => ?_); clear hK K
      rotate_left
      go_simp; have Qh := hid Qh.out.kF; generalize v.heap.size = x5 at Qh ⊢; change K _ (v.alloc (.cells Fr.Z2 26)); generalize v.alloc (.cells Fr.Z2 26) = v at Qh ⊢; refine hK.out _ _ (Fr.cells3 Qh.out.s3) (fun hHeld => ?_); clear hK K
      rotate_left
      go_simp; have Qh := hid Qh.out.kG; generalize v.heap.size = x6 at Qh ⊢; change K _ (v.alloc (.cells Fr.Z2 26)); generalize v.alloc (.cells Fr.Z2 26) = v at Qh ⊢; refine hK.out _ _ (Fr.cells3 Qh.out.s3) (fun hHeld => ?_); clear hK K
      rotate_left
    | refine Qt (rs := [1, 5]) (by decide +kernel) (by simp) ?_
      refine Jc rfl (fun K hK => ?_) (Jc rfl (fun K hK => ?_) QZ); go_simp; refine (KG.out _ Qh.out.below).mono ?_; rintro e v ⟨r, rfl, hb, hnw⟩; obtain ⟨a1, a2, a3, a4, rfl⟩ := Fr.Zd hnw.now; have Qh := hid (Qh.out.FN hb hnw); clear hb hnw; refine hK.out _ _ (Fr.cells3 Qh.out.s3) (fun hHeld => ?_); clear hK K
      rotate_left
      go_simp; have Qh := hid Qh.out.kG; generalize v.heap.size = x6 at Qh ⊢; change K _ (v.alloc (.cells Fr.Z2 26)); generalize v.alloc (.cells Fr.Z2 26) = v at Qh ⊢; refine hK.out _ _ (Fr.cells3 Qh.out.s3) (fun hHeld => ?_); clear hK K
      rotate_left
    | refine Qt (rs := [1, 4]) (by decide +kernel) (by simp) ?_
      refine Jc rfl (fun K hK => ?_) (Jc rfl (fun K hK => ?_) QZ); go_simp; refine (KG.out _ Qh.out.below).mono ?_; rintro e v ⟨r, rfl, hb, hnw⟩; obtain ⟨a1, a2, a3, a4, rfl⟩ := Fr.Zd hnw.now; have Qh := hid (Qh.out.FN hb hnw); clear hb hnw; refine hK.out _ _ (Fr.cells3 Qh.out.s3) (fun hHeld => ?_); clear hK K
      rotate_left
      go_simp; have Qh := hid Qh.out.kF; generalize v.heap.size = x5 at Qh ⊢; change K _ (v.alloc (.cells Fr.Z2 26)); generalize v.alloc (.cells Fr.Z2 26) = v at Qh ⊢; refine hK.out _ _ (Fr.cells3 Qh.out.s3) (fun hHeld => ?_); clear hK K
      rotate_left
    | refine Qt (rs := [4, 5]) (by decide +kernel) (by simp) ?_
      refine Jc rfl (fun K hK => ?_) (Jc rfl (fun K hK => ?_) QZ); go_simp; have Qh := hid Qh.out.kF; generalize v.heap.size = x5 at Qh ⊢; change K _ (v.alloc (.cells Fr.Z2 26)); generalize v.alloc (.cells Fr.Z2 26) = v at Qh ⊢; refine hK.out _ _ (Fr.cells3 Qh.out.s3) (fun hHeld => ?_); clear hK K
      rotate_left
      go_simp; have Qh := hid Qh.out.kG; generalize v.heap.size = x6 at Qh ⊢; change K _ (v.alloc (.cells Fr.Z2 26)); generalize v.alloc (.cells Fr.Z2 26) = v at Qh ⊢; refine hK.out _ _ (Fr.cells3 Qh.out.s3) (fun hHeld => ?_); clear hK K
      rotate_left
    | refine Qt (rs := [3, 5]) (by decide +kernel) (by simp) ?_
      refine Jc rfl (fun K hK => ?_) (Jc rfl (fun K hK => ?_) QZ); go_simp; refine (KG.out _ Qh.out.below).mono ?_; rintro e v ⟨r, rfl, hb, hnw⟩; obtain ⟨b1, b2, b3, b4, rfl⟩ := Fr.Zd hnw.now; have Qh := hid (Qh.out.call2 hb hnw); clear hb hnw; refine hK.out _ _ (Fr.cells3 Qh.out.s3) (fun hHeld => ?_); clear hK K
      rotate_left
      go_simp; have Qh := hid Qh.out.kG; generalize v.heap.size = x6 at Qh ⊢; change K _ (v.alloc (.cells Fr.Z2 26)); generalize v.alloc (.cells Fr.Z2 26) = v at Qh ⊢; refine hK.out _ _ (Fr.cells3 Qh.out.s3) (fun hHeld => ?_); clear hK K
      rotate_left
    | refine Qt (rs := [3, 4]) (by decide +kernel) (by simp) ?_
      refine Jc rfl (fun K hK => ?_) (Jc rfl (fun K hK => ?_) QZ); go_simp; refine (KG.out _ Qh.out.below).mono ?_; rintro e v ⟨r, rfl, hb, hnw⟩; obtain ⟨b1, b2, b3, b4, rfl⟩ := Fr.Zd hnw.now; have Qh := hid (Qh.out.call2 hb hnw); clear hb hnw; refine hK.out _ _ (Fr.cells3 Qh.out.s3) (fun hHeld => ?_); clear hK K
      rotate_left
      go_simp; have Qh := hid Qh.out.kF; generalize v.heap.size = x5 at Qh ⊢; change K _ (v.alloc (.cells Fr.Z2 26)); generalize v.alloc (.cells Fr.Z2 26) = v at Qh ⊢; refine hK.out _ _ (Fr.cells3 Qh.out.s3) (fun hHeld => ?_); clear hK K
      rotate_left
    | refine Qt (rs := [1]) (by decide +kernel) (by simp) ?_
      refine Jc rfl (fun K hK => ?_) QZ; go_simp; refine (KG.out _ Qh.out.below).mono ?_; rintro e v ⟨r, rfl, hb, hnw⟩; obtain ⟨a1, a2, a3, a4, rfl⟩ := Fr.Zd hnw.now; have Qh := hid (Qh.out.FN hb hnw); clear hb hnw; refine hK.out _ _ (Fr.cells3 Qh.out.s3) (fun hHeld => ?_); clear hK K
    | refine Qt (rs := [5]) (by decide +kernel) (by simp) ?_
      refine Jc rfl (fun K hK => ?_) QZ; go_simp; have Qh := hid Qh.out.kG; generalize v.heap.size = x6 at Qh ⊢; change K _ (v.alloc (.cells Fr.Z2 26)); generalize v.alloc (.cells Fr.Z2 26) = v at Qh ⊢; refine hK.out _ _ (Fr.cells3 Qh.out.s3) (fun hHeld => ?_); clear hK K
    | refine Qt (rs := [4]) (by decide +kernel) (by simp) ?_
      refine Jc rfl (fun K hK => ?_) QZ; go_simp; have Qh := hid Qh.out.kF; generalize v.heap.size = x5 at Qh ⊢; change K _ (v.alloc (.cells Fr.Z2 26)); generalize v.alloc (.cells Fr.Z2 26) = v at Qh ⊢; refine hK.out _ _ (Fr.cells3 Qh.out.s3) (fun hHeld => ?_); clear hK K
    | refine Qt (rs := [3]) (by decide +kernel) (by simp) ?_
      refine Jc rfl (fun K hK => ?_) QZ; go_simp; refine (KG.out _ Qh.out.below).mono ?_; rintro e v ⟨r, rfl, hb, hnw⟩; obtain ⟨b1, b2, b3, b4, rfl⟩ := Fr.Zd hnw.now; have Qh := hid (Qh.out.call2 hb hnw); clear hb hnw; refine hK.out _ _ (Fr.cells3 Qh.out.s3) (fun hHeld => ?_); clear hK K
  all_goals
   refine wR 6 rfl (fun K hK => ?_); obtain ⟨⟨f3, f6⟩, hfin⟩ := Qh.out.fin; have z0 := jK (Qh.out.e5 x5 rfl).2.2 0 _ rfl; have z1 := jK (Qh.out.e5 x5 rfl).2.2 1 _ rfl; have t0 := jX (Qh.out.e5 x5 rfl).2.2 0; have t1 := jX (Qh.out.e5 x5 rfl).2.2 1
   have F3 := hid f3; have F6 := hid f6; have HF := hid hfin
   clear f3 f6 hfin; go_simp; refine hK.out _ _ (Fr.cells3 F3) (fun hHeld => ?_); clear hK K z0 z1 t0 t1; refine wR 7 rfl (fun K hK => ?_); have z0 := xK F6 0 rfl; have z1 := xK F6 1 rfl; have t0 := jX F6 0; have t1 := jX F6 1
   go_simp; obtain ⟨g3, g5, g6, gb, ga, gc⟩ := HF.out _ rfl; have G5 := hid g5; have G6 := hid g6; have GB := hid gb; have GA := hid ga; have GC := hid gc; have G3 := hid g3
   clear g3 g5 g6 gb ga gc; refine hK.out _ _ (Fr.cells3 G3) (fun hHeld => ?_); clear hK K z0 z1 t0 t1 HF F3 F6 Qh; refine wD ?_; go_wp2_with fail
   go_meet
   exact ⟨x5, x6, _, _, _, _, _, _, _, _, rfl, rfl, G5, G6, GB, GA, GC⟩
 case rest =>
 obtain ⟨x5, x6, a1, a2, a3, a4, b1, b2, b3, b4, rfl, rfl, G5, G6, GB, GA, GC⟩ := hcut; obtain ⟨C, hC⟩ : ∃ C, C = Fr.prog 50 A := ⟨_, rfl⟩
 rw [<- hC] at uC; obtain ⟨y0, y1⟩ := xQ2 G5; go_wp2_with fail; clear y0 y1; have hbw := HB2.out.trans (GB.out.mono HB2.out.size); refine (Fr.WB (fun w' hb' => HT.out w' (hbw.trans (hb'.mono hbw.size))) 1000022 (by decide) 50 A _ GA.out (jS (jS (Zz _ _) uC.out.na.few) (by decide)) (jS uC.out.na.jF (by decide)) uC.out.na.ok uC.out.na.mul (jS (Nat.le_add_left _ _) (jS uC.out.na.few (by decide)))).mono ?_; clear hbw; rintro e w3 ⟨v3, rfl, hb3, SG⟩; rw [<- hC] at SG; obtain ⟨d1, d2, d3, d4, rfl⟩ := Fr.Zd SG.now; rw [uC.out.dl, uC.out.ll] at SG ⊢; have mG : Below wc.heap.size wc (w3.alloc (.cells #[.slice d1 A.jF.length d2, .slice d3 A.defs.length d4] 26)) := hb3.alloc hb3.size _
 have yj : Hid (Fr.FS w2 x5 x6 w3.heap.size #[.slice a1 A.jF.length a2, .slice a3 A.defs.length a4] #[.slice b1 A.jF.length b2, .slice b3 A.defs.length b4] #[.slice d1 A.jF.length d2, .slice d3 A.defs.length d4] A C (w3.alloc (.cells #[.slice d1 A.jF.length d2, .slice d3 A.defs.length d4] 26))) :=
  hid ⟨GB.out.trans (mG.mono GB.out.size), jM G5 mG, jM G6 mG, jb w3 _ _, Fr.zD GA.out mG, Fr.zD GC.out mG, SG _ (fun b _ hb => QC w3 _ b hb)⟩
 clear hb3 SG mG hC G5 G6 GB GA GC
 have PK : Hid (∀ d ∈ A.defs, d.params.length <= 400000) := hid (fun d hd => by
  have h1 := Fr.yL (Fr.cD 50) hd; have h2 := uC.out.na.few; have h3 : Fr.cD 50 d = d.params.length + Fr.cE 50 d.body := rfl
  omega)
 have ow : Hid (∀ d ∈ C.defs, d.params.length <= 400000) := hid (fun d hd => by
  have h1 := Fr.yL (Fr.cD 50) hd; have h2 := uC.out.nc.few; have h3 : Fr.cD 50 d = d.params.length + Fr.cE 50 d.body := rfl
  omega)
 obtain ⟨y0, y1⟩ := xQ2 yj.out.e5; obtain ⟨y2, y3⟩ := xQ2 yj.out.e6; obtain ⟨y4, y5⟩ := xQ2 yj.out.e7; go_wp2_with fail; clear y0 y1 y2 y3 y4 y5; refine (vN A _ _ yj.out.pa uC.out.ca (fun d hd => jS (uC.out.na.body d hd).1 (by decide)) (jS (jS (Zz _ _) uC.out.na.few) (by decide)) (PK.out)).mono ?_; rintro e wn ⟨rfl, hb⟩; have yj := hid (yj.out.step hb); clear hb; obtain ⟨y0, y1⟩ := xQ2 yj.out.e5; obtain ⟨y2, y3⟩ := xQ2 yj.out.e6; obtain ⟨y4, y5⟩ := xQ2 yj.out.e7; go_wp2_with fail; clear y0 y1 y2 y3 y4 y5; refine (vN A _ _ yj.out.pb uC.out.ca (fun d hd => jS (uC.out.na.body d hd).1 (by decide)) (jS (jS (Zz _ _) uC.out.na.few) (by decide)) (PK.out)).mono ?_; rintro e wn ⟨rfl, hb⟩; have yj := hid (yj.out.step hb); clear hb; obtain ⟨y0, y1⟩ := xQ2 yj.out.e5; obtain ⟨y2, y3⟩ := xQ2 yj.out.e6; obtain ⟨y4, y5⟩ := xQ2 yj.out.e7; go_wp2_with fail; clear y0 y1 y2 y3 y4 y5; refine (vN C _ _ yj.out.pc uC.out.cc (fun d hd => jS (uC.out.nc.body d hd).1 (by decide)) (jS (jS (Zz _ _) uC.out.nc.few) (by decide)) (ow.out)).mono ?_; rintro e wn ⟨rfl, hb⟩; have yj := hid (yj.out.step hb); clear hb; obtain ⟨y0, y1⟩ := xQ2 yj.out.e5; obtain ⟨y2, y3⟩ := xQ2 yj.out.e6; obtain ⟨y4, y5⟩ := xQ2 yj.out.e7; go_wp2_with fail; clear y0 y1 y2 y3 y4 y5; refine (WR C _ _ yj.out.pc uC.out.dc (jS uC.out.nc.wt (by decide)) (jS (jS (Zz _ _) uC.out.nc.few) (by decide))).mono ?_; rintro e wn ⟨rfl, hb⟩; have yj := hid (yj.out.step hb); clear hb; obtain ⟨y0, y1⟩ := xQ2 yj.out.e5; obtain ⟨y2, y3⟩ := xQ2 yj.out.e6; obtain ⟨y4, y5⟩ := xQ2 yj.out.e7; go_wp2_with fail; clear y0 y1 y2 y3 y4 y5; refine (GM A C _ _ _ yj.out.pa yj.out.pc uC.out.dl uC.out.nl).mono ?_; rintro e wn ⟨rfl, hb⟩; have yj := hid (yj.out.step hb); clear hb; obtain ⟨y0, y1⟩ := xQ2 yj.out.e5; obtain ⟨y2, y3⟩ := xQ2 yj.out.e6; obtain ⟨y4, y5⟩ := xQ2 yj.out.e7; go_wp2_with fail; clear y0 y1 y2 y3 y4 y5; refine (GM A A _ _ _ yj.out.pa yj.out.pb rfl rfl).mono ?_; rintro e wn ⟨rfl, hb⟩; have yj := hid (yj.out.step hb); clear hb; obtain ⟨y0, y1⟩ := xQ2 yj.out.e5; generalize w3.heap.size = x7 at yj ⊢; go_wp2_with fail; clear y0 y1
 go_loopw [62] (fun j wr => ∃ m : Nat, j = .int .i64 m /\ m <= A.defs.length /\ Hid (Fr.FS w2 x5 x6 x7 #[.slice a1 A.jF.length a2, .slice a3 A.defs.length a4] #[.slice b1 A.jF.length b2, .slice b3 A.defs.length b4] #[.slice d1 A.jF.length d2, .slice d3 A.defs.length d4] A C wr)) (fun j _ => A.defs.length - (intOf j).toNat)
 case atStart => exact ⟨0, rfl, jh _, yj⟩
 case round =>
  clear yj; obtain ⟨m, rfl, hm, yj⟩ := hrel; by_cases hlt : m < A.defs.length
  . obtain ⟨d, hd⟩ : ∃ d, A.defs[m]? = some d := ⟨_, jA hlt⟩
    obtain ⟨e, he⟩ : ∃ e, C.defs[m]? = some e := ⟨_, jA (by rw [uC.out.ll]; exact hlt)⟩
    have hrc := Vu yj.out.pc; have hll : C.defs.length = A.defs.length := uC.out.ll; obtain ⟨g, of, c', r0, s0, k, p', s, i, r1, n1, s1, r2, n2, s2, r3, n3, s3, hv, k1, k2, hcA, jDE, jDF⟩ := Fr.WQ (Vu yj.out.pa) hd
    injection hv with hq1 _ hq2
    subst hq1; subst hq2
    obtain ⟨gb, jDG, c', u0, t0, l', pb, sb, ib, u1, m1, t1, u2, m2, t2, u3, m3, t4, hv, k3, k4, hcB, jDH, jDI⟩ := Fr.WQ (Vu yj.out.pb) hd
    injection hv with hq1 _ hq2
    subst hq1; subst hq2
    obtain ⟨gc, jDJ, c', y0, z0, o, pc, sc, ic, y1, h1, z1, y2, h2, z2, y3, h3, z3, hv, k5, k6, hcC, jDK, jH6⟩ := Fr.WQ hrc he; rw [hll] at hv k5
    injection hv with hq1 _ hq2
    subst hq1; subst hq2
    have jH7 : d.params.length <= 400000 := PK.out d (jI hd); have jH8 : A.defs.length <= 62500 := jS (Zz _ _) uC.out.na.few; have jB4 := hid (uC.out.same m d e hd he); have jB5 := hid (Fr.PH d); have Om := hid (uC.out.na.wt); have jH9 := hid (Fr.yL Fr.PW (jI hd)); have jHA := hid (uC.out.nc.body e (jI he)); have gD := hid hcA; have lN := hid hcB; have Pq := hid hcC
    have jDL := hid jDE; have jHB := hid jDH; have jHC := hid jDK; have jHD := hid jDF; have I8 := hid jDI
    clear hcA hcB hcC jDE jDH jDK jDF jDI jH6 hd he hrc hll k1 k3 k5; have hk1 : (m : Int) < (A.defs.length : Int) := by omega
    have hw1 := jH9.out; unfold Fr.PW at hw1; have hw0 := Om.out; have hw3 := qC d.params; have hw4 : (A.defs.map fun d => nw d.params + Sx.ew 50 d.body).sum <= 1437500 := hw0; have HW1 : Hid (d.params.length + Sx.ew 50 d.body <= 40000000) := hid (by omega); have HW2 : Hid (Sx.ew 50 e.body <= 40000000) := hid (jS jHA.out.1 (by decide)); have HW3 : Hid (Sx.ew 50 d.body <= 40000000) := hid (by have := HW1.out; omega); clear hw1 hw0 hw3 hw4; go_upto_region 11 with fail
    refine jU (S := fun w' => Below wr.heap.size wr w') (by kernel_rfl) ((jD _ _).drew) (fun hHeld => ?_); refine wS 0 (.pointer (some ⟨x5, 1, none⟩)) rfl hHeld ?_; refine wT 1 (.slice (some ⟨g, of, none⟩) A.defs.length a4) rfl (Or.inl ⟨by rfl, fun w' hSw => by have y := jK (jM yj.out.e5 hSw) 1 _ rfl; go_simp⟩) hHeld ?_; refine wS 2 (.int .i64 m) rfl hHeld ?_; refine wS 3 (.pointer (some ⟨g, of + m * 10, none⟩)) rfl hHeld ?_; refine wT 4 (.agg #[.int .i64 d.pos, .string ⟨d.name.toArray⟩, .slice r0 d.params.length s0, .int .i64 k, .int .i64 p', .string s, .int .i64 i, .slice r1 n1 s1, .slice r2 n2 s2, .slice r3 n3 s3]) rfl (Or.inl ⟨by rfl, fun w' hSw => by have x0 := jC hSw (gD.out 0 _ rfl); have x1 := jC hSw (gD.out 1 _ rfl); have x2 := jC hSw (gD.out 2 _ rfl); have x3 := jC hSw (gD.out 3 _ rfl); have x4 := jC hSw (gD.out 4 _ rfl); have x5 := jC hSw (gD.out 5 _ rfl); have x6 := jC hSw (gD.out 6 _ rfl); have x7 := jC hSw (gD.out 7 _ rfl); have x8 := jC hSw (gD.out 8 _ rfl); have x9 := jC hSw (gD.out 9 _ rfl); simp only [jZ] at x0; go_simp⟩) hHeld ?_; refine wS 5 (.pointer (some ⟨x7, 1, none⟩)) rfl hHeld ?_; refine wT 6 (.slice (some ⟨gc, jDJ, none⟩) A.defs.length d4) rfl (Or.inl ⟨by rfl, fun w' hSw => by have y := jK (jM yj.out.e7 hSw) 1 _ rfl; go_simp⟩) hHeld ?_; refine wS 7 (.int .i64 m) rfl hHeld ?_; refine wS 8 (.pointer (some ⟨gc, jDJ + m * 10, none⟩)) rfl hHeld ?_; refine wT 9 (.agg #[.int .i64 e.pos, .string ⟨e.name.toArray⟩, .slice y0 e.params.length z0, .int .i64 o, .int .i64 pc, .string sc, .int .i64 ic, .slice y1 h1 z1, .slice y2 h2 z2, .slice y3 h3 z3]) rfl (Or.inl ⟨by rfl, fun w' hSw => by have x0 := jC hSw (Pq.out 0 _ rfl); have x1 := jC hSw (Pq.out 1 _ rfl); have x2 := jC hSw (Pq.out 2 _ rfl); have x3 := jC hSw (Pq.out 3 _ rfl); have x4 := jC hSw (Pq.out 4 _ rfl); have x5 := jC hSw (Pq.out 5 _ rfl); have x6 := jC hSw (Pq.out 6 _ rfl); have x7 := jC hSw (Pq.out 7 _ rfl); have x8 := jC hSw (Pq.out 8 _ rfl); have x9 := jC hSw (Pq.out 9 _ rfl); simp only [jZ] at x0; go_simp⟩) hHeld ?_
    try simp only [aP]
    refine wR 10 rfl (fun K hK => ?_); go_simp; refine (KF d e _ _ wr.drew (Fr.UW jDL (jD _ _).drew) (Fr.UW jHC (jD _ _).drew) HW1 HW2 jB4).mono ?_; rintro e' w5 ⟨rfl, hb5⟩; have zy := hid (Y9 hb5); clear hb5; refine hK.out _ _ zy.out (fun hHeld => ?_); clear hK K; refine wS 11 (.bool false) rfl hHeld ?_; simp only [aP]; refine wS 12 (.bool false) rfl hHeld ?_; simp only [aP]; refine wU 13 (.pointer (some ⟨x5, 1, none⟩)) rfl hHeld ?_; simp only [aP]; refine wT 14 (.slice (some ⟨g, of, none⟩) A.defs.length a4) rfl (Or.inl ⟨by go_simp, fun w' hSw => by have y := jK (jM yj.out.e5 hSw) 1 _ rfl; go_simp⟩) hHeld ?_; simp only [aP]; refine wU 15 (.int .i64 m) rfl hHeld ?_; simp only [aP]; refine wU 16 (.pointer (some ⟨g, of + m * 10, none⟩)) rfl hHeld ?_; simp only [aP]; refine wT 17 (.agg #[.int .i64 d.pos, .string ⟨d.name.toArray⟩, .slice r0 d.params.length s0, .int .i64 k, .int .i64 p', .string s, .int .i64 i, .slice r1 n1 s1, .slice r2 n2 s2, .slice r3 n3 s3]) rfl (Or.inl ⟨by go_simp, fun w' hSw => by have x0 := jC hSw (gD.out 0 _ rfl); have x1 := jC hSw (gD.out 1 _ rfl); have x2 := jC hSw (gD.out 2 _ rfl); have x3 := jC hSw (gD.out 3 _ rfl); have x4 := jC hSw (gD.out 4 _ rfl); have x5 := jC hSw (gD.out 5 _ rfl); have x6 := jC hSw (gD.out 6 _ rfl); have x7 := jC hSw (gD.out 7 _ rfl); have x8 := jC hSw (gD.out 8 _ rfl); have x9 := jC hSw (gD.out 9 _ rfl); simp only [jZ] at x0; go_simp⟩) hHeld ?_; simp only [aP]; refine wU 18 (.pointer (some ⟨x6, 1, none⟩)) rfl hHeld ?_; simp only [aP]; refine wT 19 (.slice (some ⟨gb, jDG, none⟩) A.defs.length b4) rfl (Or.inl ⟨by go_simp, fun w' hSw => by have y := jK (jM yj.out.e6 hSw) 1 _ rfl; go_simp⟩) hHeld ?_; simp only [aP]; refine wU 20 (.int .i64 m) rfl hHeld ?_; simp only [aP]; refine wU 21 (.pointer (some ⟨gb, jDG + m * 10, none⟩)) rfl hHeld ?_; simp only [aP]; refine wT 22 (.agg #[.int .i64 d.pos, .string ⟨d.name.toArray⟩, .slice u0 d.params.length t0, .int .i64 l', .int .i64 pb, .string sb, .int .i64 ib, .slice u1 m1 t1, .slice u2 m2 t2, .slice u3 m3 t4]) rfl (Or.inl ⟨by go_simp, fun w' hSw => by have x0 := jC hSw (lN.out 0 _ rfl); have x1 := jC hSw (lN.out 1 _ rfl); have x2 := jC hSw (lN.out 2 _ rfl); have x3 := jC hSw (lN.out 3 _ rfl); have x4 := jC hSw (lN.out 4 _ rfl); have x5 := jC hSw (lN.out 5 _ rfl); have x6 := jC hSw (lN.out 6 _ rfl); have x7 := jC hSw (lN.out 7 _ rfl); have x8 := jC hSw (lN.out 8 _ rfl); have x9 := jC hSw (lN.out 9 _ rfl); simp only [jZ] at x0; go_simp⟩) hHeld ?_; simp only [aP]; refine wR 23 rfl (fun K hK => ?_); go_simp; refine (KF d d _ _ w5 (Fr.UW jDL zy) (Fr.UW jHB zy) HW1 HW3 jB5).mono ?_; rintro e' w6 ⟨rfl, hb6⟩; have vD := bT zy hb6; clear hb6; refine hK.out _ _ vD.out (fun hHeld => ?_); clear hK K; refine wU 24 (.bool false) rfl hHeld ?_; simp only [aP]; refine wS 25 (.bool false) rfl hHeld ?_; simp only [aP]; refine wD ?_; have CS := hid (yj.out.step vD.out); have y1 := jK CS.out.e5 1 _ rfl; have xp := jC vD (gD.out 2 _ rfl); go_wp2_with fail; clear y1 xp
    go_loopw [98] (fun j wz => ∃ q : Nat, j = .int .i64 q /\ q <= d.params.length /\ Hid (Below w6.heap.size w6 wz)) (fun j _ => d.params.length - (intOf j).toNat)
    case atStart => exact ⟨0, rfl, jh _, hid (jD _ _)⟩
    case round =>
     obtain ⟨q, rfl, hq, De⟩ := hrel; by_cases hlt2 : q < d.params.length
     . obtain ⟨z, hz⟩ : ∃ z, d.params[q]? = some z := ⟨_, jA hlt2⟩
       have hup := vD.out.trans (De.out.mono vD.out.size)
       rcases jHD.out with ⟨h0, _⟩ | ⟨ga, oa, ka, hv, g1, g2, g3⟩
       . rw [h0] at hlt2; simp at hlt2
       injection hv with hq1 _ hq2
       subst hq1; subst hq2
       obtain ⟨u, hu, _, hcell⟩ := g3 q z hz; have hu' : u = .string ⟨z.toArray⟩ := hu; subst hu'; have e0 := jC hup (hcell 0 _ rfl)
       rcases I8.out with ⟨h0, _⟩ | ⟨gz, oz, kz, hv, g4, g5, g6⟩
       . rw [h0] at hlt2; simp at hlt2
       injection hv with hq1 _ hq2
       subst hq1; subst hq2
       obtain ⟨u, hu, _, hcell⟩ := g6 q z hz; have hu' : u = .string ⟨z.toArray⟩ := hu; subst hu'; have e1 := jC hup (hcell 0 _ rfl); simp only [qX, jZ] at e0 e1; have y1 := jK (jM CS.out.e6 De) 1 _ rfl; have xp := jC hup (lN.out 2 _ rfl); have hj1 : (q : Int) < (d.params.length : Int) := by omega
       have hj2 : (d.params.length : Int) <= (s0 : Int) := by omega
       have jBO : (d.params.length : Int) <= (t0 : Int) := by omega
       have hn0 : ((⟨z.toArray⟩ : ByteArray) != ⟨z.toArray⟩) = false := by rw [bne, (GZ _ _).2 rfl]; rfl
       clear g1 g2 g3 g4 g5 g6 hu hcell hz hup; go_wp2_with fail
       go_roundw
       case rel => exact ⟨q + 1, by go_num, by omega, De⟩
       case measure => simp [intOf]; omega
     . obtain rfl : q = d.params.length := by omega
       have jJ3 : ¬ (d.params.length : Int) < (d.params.length : Int) := by omega
       have jHE := hid (CS.out.step De.out); go_wp2_with fail
       go_roundw
       case rel => exact ⟨m + 1, by go_num, by omega, jHE⟩
       case measure => simp [intOf]; omega
  . obtain rfl : m = A.defs.length := by omega
    have hk4 : ¬ (A.defs.length : Int) < (A.defs.length : Int) := by omega
    go_wp2_with fail; go_ret; exact ⟨rfl, HB2.out.trans (yj.out.below.mono HB2.out.size)⟩
end Go.Proofs.YtlnjdclmopblcaaDoor
namespace Go.Proofs.YtlnjdclmopblcaaDoor
open Go.ChangeShapes Go.WideShapes Go.ChangeAt Go.RowKit
theorem jB6 : Tryd.prog.globalNamed "internal/strconv.uint64pow10" = some 1 := by kernel_rfl
theorem PL : (Tryd.prog.globals[1]?).map (·.type) = some 165 := by kernel_rfl
theorem PM : Tryd.prog.cellsOf 165 = 20 := by kernel_rfl
theorem PN : Tryd.prog.cellsOf 156 = 1 := by kernel_rfl
def dD : List (String × DataW Unit) := [("math/bits.deBruijn32tab", Rows.laid_math_bits_deBruijn32tab), ("math/bits.deBruijn64tab", Rows.laid_math_bits_deBruijn64tab), ("internal/strconv.uint64pow10", Rows.laid_internal_strconv_uint64pow10)]
noncomputable def kH (os : Os) : World :=
 let w0 := World.holding Tryd.prog os ⟨#[], #[], []⟩
 { w0 with heap := ((w0.heap.modify 1 fun
  | .cells _ t frozen => .cells #[.int .u64 1, .int .u64 10, .int .u64 100, .int .u64 1000, .int .u64 10000, .int .u64 100000, .int .u64 1000000, .int .u64 10000000, .int .u64 100000000, .int .u64 1000000000, .int .u64 10000000000, .int .u64 100000000000, .int .u64 1000000000000, .int .u64 10000000000000, .int .u64 100000000000000, .int .u64 1000000000000000, .int .u64 10000000000000000, .int .u64 100000000000000000, .int .u64 1000000000000000000, .int .u64 10000000000000000000] t frozen
  | o => o).modify 2 fun
  | .cells _ t frozen => .cells #[.int .u8 0, .int .u8 1, .int .u8 28, .int .u8 2, .int .u8 29, .int .u8 14, .int .u8 24, .int .u8 3, .int .u8 30, .int .u8 22, .int .u8 20, .int .u8 15, .int .u8 25, .int .u8 17, .int .u8 4, .int .u8 8, .int .u8 31, .int .u8 27, .int .u8 13, .int .u8 23, .int .u8 21, .int .u8 19, .int .u8 16, .int .u8 7, .int .u8 26, .int .u8 12, .int .u8 18, .int .u8 6, .int .u8 11, .int .u8 5, .int .u8 10, .int .u8 9] t frozen
  | o => o).modify 3 fun
  | .cells _ t frozen => .cells #[.int .u8 0, .int .u8 1, .int .u8 56, .int .u8 2, .int .u8 57, .int .u8 49, .int .u8 28, .int .u8 3, .int .u8 61, .int .u8 58, .int .u8 42, .int .u8 50, .int .u8 38, .int .u8 29, .int .u8 17, .int .u8 4, .int .u8 62, .int .u8 47, .int .u8 59, .int .u8 36, .int .u8 45, .int .u8 43, .int .u8 51, .int .u8 22, .int .u8 53, .int .u8 39, .int .u8 33, .int .u8 30, .int .u8 24, .int .u8 18, .int .u8 12, .int .u8 5, .int .u8 63, .int .u8 55, .int .u8 48, .int .u8 27, .int .u8 60, .int .u8 41, .int .u8 37, .int .u8 16, .int .u8 46, .int .u8 35, .int .u8 44, .int .u8 21, .int .u8 52, .int .u8 32, .int .u8 23, .int .u8 11, .int .u8 54, .int .u8 26, .int .u8 40, .int .u8 15, .int .u8 34, .int .u8 20, .int .u8 31, .int .u8 10, .int .u8 25, .int .u8 14, .int .u8 19, .int .u8 9, .int .u8 13, .int .u8 8, .int .u8 7, .int .u8 6] t frozen
  | o => o }
theorem gF (os : Os) (args : Array Value) : laidMet Tryd.prog dD ((kH os).forCall (fun _ _ => 0) ⟨#[], args, []⟩).memory :=
 laidMet_of_run' 8 (by kernel_rfl) (by kernel_rfl)
theorem mH {W : World} (h : laidMetH Tryd.prog dD W) : Lib.TabIs Tryd.prog W "internal/strconv.uint64pow10" .u64 Lib.pow10Tab := by
 have h2 := laidMet.tail (laidMet.tail h); exact Lib.tabIs_of_head jB6 PL Tryd.underlying165 Tryd.underlying156 PN PM h2
end Go.Proofs.YtlnjdclmopblcaaDoor
