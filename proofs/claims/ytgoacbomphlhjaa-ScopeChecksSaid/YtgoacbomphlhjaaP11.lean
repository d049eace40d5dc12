/-
  Several texts in one: RExB, RExC, RFn.
-/
import Derived.Test.YtgoacbomphlhjaaP00
import Derived.Test.YtgoacbomphlhjaaP10
import Derived.Test.YtgoacbomphlhjaaP02
import Derived.Deep.DeepCutAuto
import Derived.BigRegion
set_option linter.unusedVariables false
set_option linter.unusedSimpArgs false
namespace Go.Proofs.Ytgoacbomphlhjaa
open Go.Lib (hid)
open List renaming getElem_toArray → jX, getElem_cons_succ → jY, getElem_cons_zero → jZ, setIfInBounds_toArray → JA, set_cons_zero → JB, set_cons_succ → JC
open Go Go.RowKit
set_option maxHeartbeats 8000000 in
set_option maxRecDepth 100000 in
theorem expr_let (f k : Nat) (n : Px.Node) (v : Value) (w : World) (hn : NdAt (k + 1) w v n) (hg : Px.NodeGood n) (hl : Px.jS n = true) (hw1 : Px.word n ≠ [102, 110]) (hw2 : Px.word n = [108, 101, 116]) (hcall : ∀ v w1, NdAt (k + 1) w1 v n → Calls Try.prog 56 #[v] w1 (RTold w1 (ExprAt (f + 1)) ShExpr (Px.letExpr (Px.expr f) n))) : Calls Try.prog 28 #[v] w (RTold w (ExprAt (f + 1)) ShExpr (Px.expr (f + 1) n)) := by
 have HN0 := hid hn
 obtain ⟨lv, rfl, hr⟩ := hn
 obtain ⟨q, c, rfl⟩ := hr.len
 have hp0 : Px.expr (f + 1) n = (if Px.word n = [102, 110] then Px.fnExpr (Px.expr f) n else if Px.word n = [108, 101, 116] then Px.letExpr (Px.expr f) n else if Px.word n = [99, 97, 115, 101] then Px.caseExpr f (Px.expr f) n else Px.plainExpr (Px.expr f) n) := by
  rw [Px.expr, if_pos hl]; rfl
 have HPE : Hid (Px.expr (f + 1) n = Px.letExpr (Px.expr f) n) := hid (by rw [hp0, if_neg hw1, if_pos hw2])
 have HCALL := hid hcall; clear hcall
 have hh1 : Px.headB n [102, 110] = false := by rw [Px.head_eq hg [102, 110] (by decide) (by unfold Px.Plain; decide) (by decide)]; exact decide_eq_false hw1
 have HH1 := hid hh1
 have hh2 : Px.headB n [108, 101, 116] = true := by rw [Px.head_eq hg [108, 101, 116] (by decide) (by unfold Px.Plain; decide) (by decide)]; exact decide_eq_true hw2
 have HH2 := hid hh2
 have HHD := hid (fun w1 (hb : Below w.heap.size w w1) (s : List UInt8) => head_any (k + 1) n _ s w1 (HN0.out.below hb))
 clear hr hg hp0 hw1 hh1 hw2 hh2
 unfold nV at *
 rw [hl] at HN0 HHD ⊢
 clear hl
 go_enter Try.func28, Try.ntmps28
 obtain ⟨en, er, et, hb, hsz⟩ := ent3 w #[.int .i64 n.tok.kind, .int .i64 n.tok.pos, .string ⟨n.tok.text.toArray⟩, .int .i64 n.tok.int, .bool true, (.slice q n.list.length c)] #[.int .i64 0, .int .i64 0, .string ⟨#[]⟩, .int .i64 0, .slice none 0 0, .slice none 0 0, .slice none 0 0] #[.int .i64 0, .int .i64 n.tok.pos, .string ⟨#[]⟩, .int .i64 0, .slice none 0 0, .slice none 0 0, .slice none 0 0] 73 53 53
 have EN := hid en; have ER := hid er; have ET := hid et; have HB := hid hb
 replace hsz := Nat.le_of_eq hsz.symm
 clear en er et hb
 have enc0 := jA EN.out 0 _ rfl
 have enc1 := jA EN.out 1 _ rfl
 have enc2 := jA EN.out 2 _ rfl
 have enc3 := jA EN.out 3 _ rfl
 have enc4 := jA EN.out 4 _ rfl
 have enc5 := jA EN.out 5 _ rfl
 have enf := jD EN.out
 go_wp2_with fail
 clear enc0 enc1 enc2 enc3 enc4 enc5 enf
 refine (HHD.out _ HB.out [102, 110]).mono ?_
 rintro e wq1 ⟨rfl, hb⟩
 rw [HH1.out]
 replace hsz := Nat.le_trans hsz hb.size
 replace EN := hid (jC EN.out hb)
 replace ER := hid (jC ER.out hb)
 replace ET := hid (jC ET.out hb)
 replace HB := hid (HB.out.trans (hb.mono HB.out.size))
 clear hb
 have enc0 := jA EN.out 0 _ rfl
 have enc1 := jA EN.out 1 _ rfl
 have enc2 := jA EN.out 2 _ rfl
 have enc3 := jA EN.out 3 _ rfl
 have enc4 := jA EN.out 4 _ rfl
 have enc5 := jA EN.out 5 _ rfl
 have enf := jD EN.out
 go_wp2_with fail
 clear enc0 enc1 enc2 enc3 enc4 enc5 enf
 refine (HHD.out _ HB.out [108, 101, 116]).mono ?_
 rintro e wq2 ⟨rfl, hb⟩
 rw [HH2.out]
 replace hsz := Nat.le_trans hsz hb.size
 replace EN := hid (jC EN.out hb)
 replace ER := hid (jC ER.out hb)
 replace ET := hid (jC ET.out hb)
 replace HB := hid (HB.out.trans (hb.mono HB.out.size))
 clear hb
 have enc0 := jA EN.out 0 _ rfl
 have enc1 := jA EN.out 1 _ rfl
 have enc2 := jA EN.out 2 _ rfl
 have enc3 := jA EN.out 3 _ rfl
 have enc4 := jA EN.out 4 _ rfl
 have enc5 := jA EN.out 5 _ rfl
 have enf := jD EN.out
 go_wp2_with fail
 clear enc0 enc1 enc2 enc3 enc4 enc5 enf
 have HLO := hid hsz
 refine (HCALL.out _ _ (HN0.out.below HB.out)).mono ?_
 intro e w5 ht
 cases hx : Px.letExpr (Px.expr f) n with
 | error p =>
   obtain ⟨z, rfl, ⟨xk, xp, xs2, xi, q1, n1, c1, q2, n2, c2, q3, n3, c3, rfl⟩, hb⟩ := jN ht hx
   have HX := hid hx
   replace hsz := Nat.le_trans hsz hb.size
   replace EN := hid (jC EN.out hb)
   replace ER := hid (jC ER.out hb)
   replace ET := hid (jC ET.out hb)
   replace HB := hid (HB.out.trans (hb.mono HB.out.size))
   clear hb
   clear ht hx EN ET
   have erc0 := jA ER.out 0 _ rfl
   have erc1 := jA ER.out 1 _ rfl
   have erc2 := jA ER.out 2 _ rfl
   have erc3 := jA ER.out 3 _ rfl
   have erc4 := jA ER.out 4 _ rfl
   have erc5 := jA ER.out 5 _ rfl
   have erc6 := jA ER.out 6 _ rfl
   have erf := jD ER.out
   go_wp2_with fail
   replace ER := hid (jU (ER.out) (.int .i64 xk) (.int .i64 xp) (.string xs2) (.int .i64 xi) (.slice q1 n1 c1) (.slice q2 n2 c2) (.slice q3 n3 c3))
   replace HB := hid (Below.setCell (Below.setCell (Below.setCell (Below.setCell (Below.setCell (Below.setCell (Below.setCell (HB.out) (p := ⟨w.heap.size + 1, 0, none⟩) (by dsimp only; omega) (.int .i64 xk)) (p := ⟨w.heap.size + 1, 1, none⟩) (by dsimp only; omega) (.int .i64 xp)) (p := ⟨w.heap.size + 1, 2, none⟩) (by dsimp only; omega) (.string xs2)) (p := ⟨w.heap.size + 1, 3, none⟩) (by dsimp only; omega) (.int .i64 xi)) (p := ⟨w.heap.size + 1, 4, none⟩) (by dsimp only; omega) (.slice q1 n1 c1)) (p := ⟨w.heap.size + 1, 5, none⟩) (by dsimp only; omega) (.slice q2 n2 c2)) (p := ⟨w.heap.size + 1, 6, none⟩) (by dsimp only; omega) (.slice q3 n3 c3))
   have r0 := jA ER.out 0 _ rfl
   have r1 := jA ER.out 1 _ rfl
   have r2 := jA ER.out 2 _ rfl
   have r3 := jA ER.out 3 _ rfl
   have r4 := jA ER.out 4 _ rfl
   have r5 := jA ER.out 5 _ rfl
   have r6 := jA ER.out 6 _ rfl
   refine bodyPost_ret (v := .tuple #[.agg #[.int .i64 xk, .int .i64 xp, .string xs2, .int .i64 xi, .slice q1 n1 c1, .slice q2 n2 c2, .slice q3 n3 c3], .int .i64 p]) (by simp [results, Try.results28, go_sem, r0, r1, r2, r3, r4, r5, r6]) rfl ?_
   exact jL (by rw [HPE.out, HX.out]) HB.out ⟨_, _, _, _, _, _, _, _, _, _, _, _, _, rfl⟩
 | ok x =>
   obtain ⟨z, rfl, ⟨xk, xp, xs2, xi, q1, n1, c1, q2, n2, c2, q3, n3, c3, rfl⟩, hnew, hb⟩ := rtold_ok ht hx
   have HX := hid hx; have HNEW := hid hnew
   have S1 := hid (Stay.refl wq2.heap.size w5)
   replace hsz := Nat.le_trans hsz hb.size
   replace EN := hid (jC EN.out hb)
   replace ER := hid (jC ER.out hb)
   replace ET := hid (jC ET.out hb)
   replace HB := hid (HB.out.trans (hb.mono HB.out.size))
   clear hb
   clear ht hx hnew EN ET
   have erc0 := jA ER.out 0 _ rfl
   have erc1 := jA ER.out 1 _ rfl
   have erc2 := jA ER.out 2 _ rfl
   have erc3 := jA ER.out 3 _ rfl
   have erc4 := jA ER.out 4 _ rfl
   have erc5 := jA ER.out 5 _ rfl
   have erc6 := jA ER.out 6 _ rfl
   have erf := jD ER.out
   go_wp2_with fail
   replace ER := hid (jU (ER.out) (.int .i64 xk) (.int .i64 xp) (.string xs2) (.int .i64 xi) (.slice q1 n1 c1) (.slice q2 n2 c2) (.slice q3 n3 c3))
   replace HB := hid (Below.setCell (Below.setCell (Below.setCell (Below.setCell (Below.setCell (Below.setCell (Below.setCell (HB.out) (p := ⟨w.heap.size + 1, 0, none⟩) (by dsimp only; omega) (.int .i64 xk)) (p := ⟨w.heap.size + 1, 1, none⟩) (by dsimp only; omega) (.int .i64 xp)) (p := ⟨w.heap.size + 1, 2, none⟩) (by dsimp only; omega) (.string xs2)) (p := ⟨w.heap.size + 1, 3, none⟩) (by dsimp only; omega) (.int .i64 xi)) (p := ⟨w.heap.size + 1, 4, none⟩) (by dsimp only; omega) (.slice q1 n1 c1)) (p := ⟨w.heap.size + 1, 5, none⟩) (by dsimp only; omega) (.slice q2 n2 c2)) (p := ⟨w.heap.size + 1, 6, none⟩) (by dsimp only; omega) (.slice q3 n3 c3))
   have r0 := jA ER.out 0 _ rfl
   have r1 := jA ER.out 1 _ rfl
   have r2 := jA ER.out 2 _ rfl
   have r3 := jA ER.out 3 _ rfl
   have r4 := jA ER.out 4 _ rfl
   have r5 := jA ER.out 5 _ rfl
   have r6 := jA ER.out 6 _ rfl
   refine bodyPost_ret (v := .tuple #[.agg #[.int .i64 xk, .int .i64 xp, .string xs2, .int .i64 xi, .slice q1 n1 c1, .slice q2 n2 c2, .slice q3 n3 c3], .int .i64 (-1)]) (by simp [results, Try.results28, go_sem, r0, r1, r2, r3, r4, r5, r6]) rfl ?_
   exact jO (x := x) (by rw [HPE.out, HX.out]) HB.out ⟨_, _, _, _, _, _, _, _, _, _, _, _, _, rfl⟩ (New.stay HNEW.out (by have := HLO.out; omega) (Stay.set (Stay.set (Stay.set (Stay.set (Stay.set (Stay.set (Stay.set (S1.out) (w.heap.size + 1) 0 _ (by have := HLO.out; omega)) (w.heap.size + 1) 1 _ (by have := HLO.out; omega)) (w.heap.size + 1) 2 _ (by have := HLO.out; omega)) (w.heap.size + 1) 3 _ (by have := HLO.out; omega)) (w.heap.size + 1) 4 _ (by have := HLO.out; omega)) (w.heap.size + 1) 5 _ (by have := HLO.out; omega)) (w.heap.size + 1) 6 _ (by have := HLO.out; omega)))
end Go.Proofs.Ytgoacbomphlhjaa

namespace Go.Proofs.Ytgoacbomphlhjaa
open Go.Lib (hid)
open List renaming getElem_toArray → jX, getElem_cons_succ → jY, getElem_cons_zero → jZ, setIfInBounds_toArray → JA, set_cons_zero → JB, set_cons_succ → JC
open Go Go.RowKit
set_option maxHeartbeats 8000000 in
set_option maxRecDepth 100000 in
theorem expr_cases (f k : Nat) (n : Px.Node) (v : Value) (w : World) (hn : NdAt (k + 1) w v n) (hg : Px.NodeGood n) (hl : Px.jS n = true) (hw1 : Px.word n ≠ [102, 110]) (hw2 : Px.word n ≠ [108, 101, 116]) (hw3 : Px.word n = [99, 97, 115, 101]) (hcall : ∀ v w1, NdAt (k + 1) w1 v n → Calls Try.prog 57 #[v] w1 (RTold w1 (ExprAt (f + 1)) ShExpr (Px.caseExpr f (Px.expr f) n))) : Calls Try.prog 28 #[v] w (RTold w (ExprAt (f + 1)) ShExpr (Px.expr (f + 1) n)) := by
 have HN0 := hid hn
 obtain ⟨lv, rfl, hr⟩ := hn
 obtain ⟨q, c, rfl⟩ := hr.len
 have hp0 : Px.expr (f + 1) n = (if Px.word n = [102, 110] then Px.fnExpr (Px.expr f) n else if Px.word n = [108, 101, 116] then Px.letExpr (Px.expr f) n else if Px.word n = [99, 97, 115, 101] then Px.caseExpr f (Px.expr f) n else Px.plainExpr (Px.expr f) n) := by
  rw [Px.expr, if_pos hl]; rfl
 have HPE : Hid (Px.expr (f + 1) n = Px.caseExpr f (Px.expr f) n) := hid (by rw [hp0, if_neg hw1, if_neg hw2, if_pos hw3])
 have HCALL := hid hcall; clear hcall
 have hh1 : Px.headB n [102, 110] = false := by rw [Px.head_eq hg [102, 110] (by decide) (by unfold Px.Plain; decide) (by decide)]; exact decide_eq_false hw1
 have HH1 := hid hh1
 have hh2 : Px.headB n [108, 101, 116] = false := by rw [Px.head_eq hg [108, 101, 116] (by decide) (by unfold Px.Plain; decide) (by decide)]; exact decide_eq_false hw2
 have HH2 := hid hh2
 have hh3 : Px.headB n [99, 97, 115, 101] = true := by rw [Px.head_eq hg [99, 97, 115, 101] (by decide) (by unfold Px.Plain; decide) (by decide)]; exact decide_eq_true hw3
 have HH3 := hid hh3
 have HHD := hid (fun w1 (hb : Below w.heap.size w w1) (s : List UInt8) => head_any (k + 1) n _ s w1 (HN0.out.below hb))
 clear hr hg hp0 hw1 hh1 hw2 hh2 hw3 hh3
 unfold nV at *
 rw [hl] at HN0 HHD ⊢
 clear hl
 go_enter Try.func28, Try.ntmps28
 obtain ⟨en, er, et, hb, hsz⟩ := ent3 w #[.int .i64 n.tok.kind, .int .i64 n.tok.pos, .string ⟨n.tok.text.toArray⟩, .int .i64 n.tok.int, .bool true, (.slice q n.list.length c)] #[.int .i64 0, .int .i64 0, .string ⟨#[]⟩, .int .i64 0, .slice none 0 0, .slice none 0 0, .slice none 0 0] #[.int .i64 0, .int .i64 n.tok.pos, .string ⟨#[]⟩, .int .i64 0, .slice none 0 0, .slice none 0 0, .slice none 0 0] 73 53 53
 have EN := hid en; have ER := hid er; have ET := hid et; have HB := hid hb
 replace hsz := Nat.le_of_eq hsz.symm
 clear en er et hb
 have enc0 := jA EN.out 0 _ rfl
 have enc1 := jA EN.out 1 _ rfl
 have enc2 := jA EN.out 2 _ rfl
 have enc3 := jA EN.out 3 _ rfl
 have enc4 := jA EN.out 4 _ rfl
 have enc5 := jA EN.out 5 _ rfl
 have enf := jD EN.out
 go_wp2_with fail
 clear enc0 enc1 enc2 enc3 enc4 enc5 enf
 refine (HHD.out _ HB.out [102, 110]).mono ?_
 rintro e wq1 ⟨rfl, hb⟩
 rw [HH1.out]
 replace hsz := Nat.le_trans hsz hb.size
 replace EN := hid (jC EN.out hb)
 replace ER := hid (jC ER.out hb)
 replace ET := hid (jC ET.out hb)
 replace HB := hid (HB.out.trans (hb.mono HB.out.size))
 clear hb
 have enc0 := jA EN.out 0 _ rfl
 have enc1 := jA EN.out 1 _ rfl
 have enc2 := jA EN.out 2 _ rfl
 have enc3 := jA EN.out 3 _ rfl
 have enc4 := jA EN.out 4 _ rfl
 have enc5 := jA EN.out 5 _ rfl
 have enf := jD EN.out
 go_wp2_with fail
 clear enc0 enc1 enc2 enc3 enc4 enc5 enf
 refine (HHD.out _ HB.out [108, 101, 116]).mono ?_
 rintro e wq2 ⟨rfl, hb⟩
 rw [HH2.out]
 replace hsz := Nat.le_trans hsz hb.size
 replace EN := hid (jC EN.out hb)
 replace ER := hid (jC ER.out hb)
 replace ET := hid (jC ET.out hb)
 replace HB := hid (HB.out.trans (hb.mono HB.out.size))
 clear hb
 have enc0 := jA EN.out 0 _ rfl
 have enc1 := jA EN.out 1 _ rfl
 have enc2 := jA EN.out 2 _ rfl
 have enc3 := jA EN.out 3 _ rfl
 have enc4 := jA EN.out 4 _ rfl
 have enc5 := jA EN.out 5 _ rfl
 have enf := jD EN.out
 go_wp2_with fail
 clear enc0 enc1 enc2 enc3 enc4 enc5 enf
 refine (HHD.out _ HB.out [99, 97, 115, 101]).mono ?_
 rintro e wq3 ⟨rfl, hb⟩
 rw [HH3.out]
 replace hsz := Nat.le_trans hsz hb.size
 replace EN := hid (jC EN.out hb)
 replace ER := hid (jC ER.out hb)
 replace ET := hid (jC ET.out hb)
 replace HB := hid (HB.out.trans (hb.mono HB.out.size))
 clear hb
 have enc0 := jA EN.out 0 _ rfl
 have enc1 := jA EN.out 1 _ rfl
 have enc2 := jA EN.out 2 _ rfl
 have enc3 := jA EN.out 3 _ rfl
 have enc4 := jA EN.out 4 _ rfl
 have enc5 := jA EN.out 5 _ rfl
 have enf := jD EN.out
 go_wp2_with fail
 clear enc0 enc1 enc2 enc3 enc4 enc5 enf
 have HLO := hid hsz
 refine (HCALL.out _ _ (HN0.out.below HB.out)).mono ?_
 intro e w5 ht
 cases hx : Px.caseExpr f (Px.expr f) n with
 | error p =>
   obtain ⟨z, rfl, ⟨xk, xp, xs2, xi, q1, n1, c1, q2, n2, c2, q3, n3, c3, rfl⟩, hb⟩ := jN ht hx
   have HX := hid hx
   replace hsz := Nat.le_trans hsz hb.size
   replace EN := hid (jC EN.out hb)
   replace ER := hid (jC ER.out hb)
   replace ET := hid (jC ET.out hb)
   replace HB := hid (HB.out.trans (hb.mono HB.out.size))
   clear hb
   clear ht hx EN ET
   have erc0 := jA ER.out 0 _ rfl
   have erc1 := jA ER.out 1 _ rfl
   have erc2 := jA ER.out 2 _ rfl
   have erc3 := jA ER.out 3 _ rfl
   have erc4 := jA ER.out 4 _ rfl
   have erc5 := jA ER.out 5 _ rfl
   have erc6 := jA ER.out 6 _ rfl
   have erf := jD ER.out
   go_wp2_with fail
   replace ER := hid (jU (ER.out) (.int .i64 xk) (.int .i64 xp) (.string xs2) (.int .i64 xi) (.slice q1 n1 c1) (.slice q2 n2 c2) (.slice q3 n3 c3))
   replace HB := hid (Below.setCell (Below.setCell (Below.setCell (Below.setCell (Below.setCell (Below.setCell (Below.setCell (HB.out) (p := ⟨w.heap.size + 1, 0, none⟩) (by dsimp only; omega) (.int .i64 xk)) (p := ⟨w.heap.size + 1, 1, none⟩) (by dsimp only; omega) (.int .i64 xp)) (p := ⟨w.heap.size + 1, 2, none⟩) (by dsimp only; omega) (.string xs2)) (p := ⟨w.heap.size + 1, 3, none⟩) (by dsimp only; omega) (.int .i64 xi)) (p := ⟨w.heap.size + 1, 4, none⟩) (by dsimp only; omega) (.slice q1 n1 c1)) (p := ⟨w.heap.size + 1, 5, none⟩) (by dsimp only; omega) (.slice q2 n2 c2)) (p := ⟨w.heap.size + 1, 6, none⟩) (by dsimp only; omega) (.slice q3 n3 c3))
   have r0 := jA ER.out 0 _ rfl
   have r1 := jA ER.out 1 _ rfl
   have r2 := jA ER.out 2 _ rfl
   have r3 := jA ER.out 3 _ rfl
   have r4 := jA ER.out 4 _ rfl
   have r5 := jA ER.out 5 _ rfl
   have r6 := jA ER.out 6 _ rfl
   refine bodyPost_ret (v := .tuple #[.agg #[.int .i64 xk, .int .i64 xp, .string xs2, .int .i64 xi, .slice q1 n1 c1, .slice q2 n2 c2, .slice q3 n3 c3], .int .i64 p]) (by simp [results, Try.results28, go_sem, r0, r1, r2, r3, r4, r5, r6]) rfl ?_
   exact jL (by rw [HPE.out, HX.out]) HB.out ⟨_, _, _, _, _, _, _, _, _, _, _, _, _, rfl⟩
 | ok x =>
   obtain ⟨z, rfl, ⟨xk, xp, xs2, xi, q1, n1, c1, q2, n2, c2, q3, n3, c3, rfl⟩, hnew, hb⟩ := rtold_ok ht hx
   have HX := hid hx; have HNEW := hid hnew
   have S1 := hid (Stay.refl wq3.heap.size w5)
   replace hsz := Nat.le_trans hsz hb.size
   replace EN := hid (jC EN.out hb)
   replace ER := hid (jC ER.out hb)
   replace ET := hid (jC ET.out hb)
   replace HB := hid (HB.out.trans (hb.mono HB.out.size))
   clear hb
   clear ht hx hnew EN ET
   have erc0 := jA ER.out 0 _ rfl
   have erc1 := jA ER.out 1 _ rfl
   have erc2 := jA ER.out 2 _ rfl
   have erc3 := jA ER.out 3 _ rfl
   have erc4 := jA ER.out 4 _ rfl
   have erc5 := jA ER.out 5 _ rfl
   have erc6 := jA ER.out 6 _ rfl
   have erf := jD ER.out
   go_wp2_with fail
   replace ER := hid (jU (ER.out) (.int .i64 xk) (.int .i64 xp) (.string xs2) (.int .i64 xi) (.slice q1 n1 c1) (.slice q2 n2 c2) (.slice q3 n3 c3))
   replace HB := hid (Below.setCell (Below.setCell (Below.setCell (Below.setCell (Below.setCell (Below.setCell (Below.setCell (HB.out) (p := ⟨w.heap.size + 1, 0, none⟩) (by dsimp only; omega) (.int .i64 xk)) (p := ⟨w.heap.size + 1, 1, none⟩) (by dsimp only; omega) (.int .i64 xp)) (p := ⟨w.heap.size + 1, 2, none⟩) (by dsimp only; omega) (.string xs2)) (p := ⟨w.heap.size + 1, 3, none⟩) (by dsimp only; omega) (.int .i64 xi)) (p := ⟨w.heap.size + 1, 4, none⟩) (by dsimp only; omega) (.slice q1 n1 c1)) (p := ⟨w.heap.size + 1, 5, none⟩) (by dsimp only; omega) (.slice q2 n2 c2)) (p := ⟨w.heap.size + 1, 6, none⟩) (by dsimp only; omega) (.slice q3 n3 c3))
   have r0 := jA ER.out 0 _ rfl
   have r1 := jA ER.out 1 _ rfl
   have r2 := jA ER.out 2 _ rfl
   have r3 := jA ER.out 3 _ rfl
   have r4 := jA ER.out 4 _ rfl
   have r5 := jA ER.out 5 _ rfl
   have r6 := jA ER.out 6 _ rfl
   refine bodyPost_ret (v := .tuple #[.agg #[.int .i64 xk, .int .i64 xp, .string xs2, .int .i64 xi, .slice q1 n1 c1, .slice q2 n2 c2, .slice q3 n3 c3], .int .i64 (-1)]) (by simp [results, Try.results28, go_sem, r0, r1, r2, r3, r4, r5, r6]) rfl ?_
   exact jO (x := x) (by rw [HPE.out, HX.out]) HB.out ⟨_, _, _, _, _, _, _, _, _, _, _, _, _, rfl⟩ (New.stay HNEW.out (by have := HLO.out; omega) (Stay.set (Stay.set (Stay.set (Stay.set (Stay.set (Stay.set (Stay.set (S1.out) (w.heap.size + 1) 0 _ (by have := HLO.out; omega)) (w.heap.size + 1) 1 _ (by have := HLO.out; omega)) (w.heap.size + 1) 2 _ (by have := HLO.out; omega)) (w.heap.size + 1) 3 _ (by have := HLO.out; omega)) (w.heap.size + 1) 4 _ (by have := HLO.out; omega)) (w.heap.size + 1) 5 _ (by have := HLO.out; omega)) (w.heap.size + 1) 6 _ (by have := HLO.out; omega)))
end Go.Proofs.Ytgoacbomphlhjaa

namespace Go.Proofs.Ytgoacbomphlhjaa
open Go.Lib (hid)
open List renaming getElem_toArray → jX, getElem_cons_succ → jY, getElem_cons_zero → jZ, setIfInBounds_toArray → JA, set_cons_zero → JB, set_cons_succ → JC
open Go Go.RowKit
theorem names_le {m : Px.Node} {l : List Px.Node} (h : Px.nodes m 1 8 = .ok l) : Px.names m 0 = Px.names m 1 := by
 have hni := jW h
 have h0 : Px.nodes m 0 8 = .ok m.list := by
  unfold Px.nodes Px.hold
  rw [if_pos hni.2.2.2, if_neg (by omega)]
  have : m.list[8]? = none := List.getElem?_eq_none (by have := hni.1; have := hni.2.2.1; subst l; omega)
  rw [this]
 unfold Px.names
 rw [h, h0, hni.1]
/-- The rest of a row from one place on. -/
theorem row_drop {α : Type} {sz : Nat} {rep : Value → α → Prop} {w : World} {g o c n : Nat} {l : List α} (h : RowAt sz rep w (.slice (some ⟨g, o, none⟩) n c) l) (j : Nat) (hj : j ≤ l.length) :
 RowAt sz rep w (.slice (some ⟨g, if c = j then o else o + j * sz, none⟩) (l.length - j) (c - j)) (l.drop j) := by
 by_cases hjl : j = l.length
 · left
   rw [hjl]
   refine ⟨by simp, some ⟨g, if c = l.length then o else o + l.length * sz, none⟩, c - l.length, ?_⟩
   rw [Nat.sub_self]
 · rcases h with ⟨h0, _⟩ | ⟨g', o', c', hv, h1, h2, h3⟩
   · rw [h0] at hjl hj; simp at hj; simp [hj] at hjl
   · injection hv with hq _ hc
     injection hq with hq
     injection hq with hg ho
     subst hg; subst ho; subst hc
     refine .inr ⟨g, if c = j then o else o + j * sz, c - j, by rw [List.length_drop], by rw [List.length_drop]; omega, by omega, fun i x hx => ?_⟩
     rw [List.getElem?_drop] at hx
     obtain ⟨u, hu, hsz, hcell⟩ := h3 (j + i) x hx
     refine ⟨u, hu, hsz, fun k z hz => ?_⟩
     have e : ¬ c = j := by omega
     rw [if_neg e, ← hcell k z hz, Nat.add_mul]
     congr 2
     omega
set_option maxHeartbeats 8000000 in
set_option maxRecDepth 100000 in
theorem fn_any (f k : Nat) (n : Px.Node) (v : Value) (w : World) (hn : NdAt (k + 1) w v n) (hg : Px.NodeGood n) (hl : Px.jS n = true) (ih : ∀ m ∈ n.list, ∀ v w1, NdAt k w1 v m → Calls Try.prog 28 #[v] w1 (RTold w1 (ExprAt f) ShExpr (Px.expr f m))) : Calls Try.prog 55 #[v] w (RTold w (ExprAt (f + 1)) ShExpr (Px.fnExpr (Px.expr f) n)) := by
 have HN0 := hid hn
 have HIH := hid ih
 obtain ⟨lv, rfl, hr⟩ := hn
 obtain ⟨q, c, rfl⟩ := hr.len
 have HR := hid hr
 have HG := hid hg
 have hp0 : Px.fnExpr (Px.expr f) n = (match Px.nodes n 3 3 with
  | .error p => .error p
  | .ok l =>
    match Px.names (l.getD 1 n) 1 with
    | .error p => .error p
    | .ok ns =>
      match Px.expr f (l.getD 2 n) with
      | .error p => .error p
      | .ok x => .ok (.mk 3 n.pos [] 0 ns [x] [])) := rfl
 have HP := hid hp0
 have HS2 := hid (fun w1 (hb : Below w.heap.size w w1) => size_any (k + 1) n _ 3 3 w1 (HN0.out.below hb) (by omega) (by omega))
 clear hr hg hp0 ih
 unfold nV at *
 rw [hl] at *
 clear hl
 go_enter Try.func55, Try.ntmps55
 obtain ⟨en, er, et, hb, hsz⟩ := ent3 w #[.int .i64 n.tok.kind, .int .i64 n.tok.pos, .string ⟨n.tok.text.toArray⟩, .int .i64 n.tok.int, .bool true, (.slice q n.list.length c)] #[.int .i64 0, .int .i64 0, .string ⟨#[]⟩, .int .i64 0, .slice none 0 0, .slice none 0 0, .slice none 0 0] #[.int .i64 3, .int .i64 n.tok.pos, .string ⟨#[]⟩, .int .i64 0, .slice none 0 0, .slice none 0 0, .slice none 0 0] 73 53 53
 have EN := hid en; have ER := hid er; have ET := hid et; have HB := hid hb
 replace hsz := Nat.le_of_eq hsz.symm
 clear en er et hb
 go_wp2_with fail
 refine (HS2.out _ HB.out).mono ?_
 rintro e w1 ⟨rfl, hb⟩
 replace hsz := Nat.le_trans hsz hb.size
 replace EN := hid (jC EN.out hb)
 replace ER := hid (jC ER.out hb)
 replace ET := hid (jC ET.out hb)
 replace HB := hid (HB.out.trans (hb.mono HB.out.size))
 clear hb
 unfold sizeP
 cases hnd : Px.nodes n 3 3 with
 | error p =>
   dsimp only
   have hge : (p : Int) ≥ 0 := by omega
   have HND := hid hnd; clear hnd
   have erc0 := jA ER.out 0 _ rfl
   have erc1 := jA ER.out 1 _ rfl
   have erc2 := jA ER.out 2 _ rfl
   have erc3 := jA ER.out 3 _ rfl
   have erc4 := jA ER.out 4 _ rfl
   have erc5 := jA ER.out 5 _ rfl
   have erc6 := jA ER.out 6 _ rfl
   have erf := jD ER.out
   have etc0 := jA ET.out 0 _ rfl
   have etc1 := jA ET.out 1 _ rfl
   have etc2 := jA ET.out 2 _ rfl
   have etc3 := jA ET.out 3 _ rfl
   have etc4 := jA ET.out 4 _ rfl
   have etc5 := jA ET.out 5 _ rfl
   have etc6 := jA ET.out 6 _ rfl
   have etf := jD ET.out
   go_wp2_with fail
   replace EN := hid (jB (jB (jB (jB (jB (jB (jB (EN.out) (w.heap.size + 1) 0 (.int .i64 3) (by omega)) (w.heap.size + 1) 1 (.int .i64 n.tok.pos) (by omega)) (w.heap.size + 1) 2 (.string ⟨#[]⟩) (by omega)) (w.heap.size + 1) 3 (.int .i64 0) (by omega)) (w.heap.size + 1) 4 (.slice none 0 0) (by omega)) (w.heap.size + 1) 5 (.slice none 0 0) (by omega)) (w.heap.size + 1) 6 (.slice none 0 0) (by omega))
   replace ER := hid (jU (ER.out) (.int .i64 3) (.int .i64 n.tok.pos) (.string ⟨#[]⟩) (.int .i64 0) (.slice none 0 0) (.slice none 0 0) (.slice none 0 0))
   replace ET := hid (jB (jB (jB (jB (jB (jB (jB (ET.out) (w.heap.size + 1) 0 (.int .i64 3) (by omega)) (w.heap.size + 1) 1 (.int .i64 n.tok.pos) (by omega)) (w.heap.size + 1) 2 (.string ⟨#[]⟩) (by omega)) (w.heap.size + 1) 3 (.int .i64 0) (by omega)) (w.heap.size + 1) 4 (.slice none 0 0) (by omega)) (w.heap.size + 1) 5 (.slice none 0 0) (by omega)) (w.heap.size + 1) 6 (.slice none 0 0) (by omega))
   replace HB := hid (Below.setCell (Below.setCell (Below.setCell (Below.setCell (Below.setCell (Below.setCell (Below.setCell (HB.out) (p := ⟨w.heap.size + 1, 0, none⟩) (by dsimp only; omega) (.int .i64 3)) (p := ⟨w.heap.size + 1, 1, none⟩) (by dsimp only; omega) (.int .i64 n.tok.pos)) (p := ⟨w.heap.size + 1, 2, none⟩) (by dsimp only; omega) (.string ⟨#[]⟩)) (p := ⟨w.heap.size + 1, 3, none⟩) (by dsimp only; omega) (.int .i64 0)) (p := ⟨w.heap.size + 1, 4, none⟩) (by dsimp only; omega) (.slice none 0 0)) (p := ⟨w.heap.size + 1, 5, none⟩) (by dsimp only; omega) (.slice none 0 0)) (p := ⟨w.heap.size + 1, 6, none⟩) (by dsimp only; omega) (.slice none 0 0))
   have r0 := jA ER.out 0 _ rfl
   have r1 := jA ER.out 1 _ rfl
   have r2 := jA ER.out 2 _ rfl
   have r3 := jA ER.out 3 _ rfl
   have r4 := jA ER.out 4 _ rfl
   have r5 := jA ER.out 5 _ rfl
   have r6 := jA ER.out 6 _ rfl
   refine bodyPost_ret (v := .tuple #[.agg #[.int .i64 3, .int .i64 n.tok.pos, .string ⟨#[]⟩, .int .i64 0, .slice none 0 0, .slice none 0 0, .slice none 0 0], .int .i64 p]) (by simp [results, Try.results55, go_sem, r0, r1, r2, r3, r4, r5, r6]) rfl ?_
   exact jL (by rw [HP.out, HND.out]) HB.out ⟨_, _, _, _, _, _, _, _, _, _, _, _, _, rfl⟩
 | ok l =>
   dsimp only
   have hni := jW hnd
   have hll := hni.1
   have hlen2 := hni.2.1
   have hlen9 := hni.2.2.1
   clear hni
   subst hll
   have hlen : n.list.length = 3 := by omega
   replace HP := HP.out
   rw [hnd] at HP
   dsimp only at HP
   rcases HR.out with ⟨h0, _⟩ | ⟨g, of, c', hv, g1, g2, g3⟩
   · rw [h0] at hlen2; simp at hlen2
   injection hv with hq1 _ hq2
   subst hq1; subst hq2
   obtain ⟨m1, hm⟩ : ∃ m, n.list[1]? = some m := ⟨_, List.getElem?_eq_getElem (by omega)⟩
   have hgt1 : n.list.getD 1 n = m1 := by rw [List.getD_eq_getElem?_getD, hm]; rfl
   have HGm1 := hid (HG.out.kid (List.mem_of_getElem? hm))
   have HIm1 := hid (HIH.out m1 (List.mem_of_getElem? hm))
   have HMm1 := hid hm
   obtain ⟨u, hu, _, hcell⟩ := g3 1 m1 hm
   have HUm1 := hid hu
   obtain ⟨km1, kvm1, hk1, hue, hkr, q0, q1, q2, q3, q4, q5⟩ := jR hu hcell
   subst hue
   have HVm1 := hid hu
   simp only [Nat.reduceMul, Nat.add_zero, Nat.zero_add] at q0 q1 q2 q3 q4 q5
   have m1q0 := hid q0; have m1q1 := hid q1; have m1q2 := hid q2; have m1q3 := hid q3; have m1q4 := hid q4; have m1q5 := hid q5
   clear hu hcell hkr q0 q1 q2 q3 q4 q5 hm
   obtain ⟨m2, hm⟩ : ∃ m, n.list[2]? = some m := ⟨_, List.getElem?_eq_getElem (by omega)⟩
   have hgt2 : n.list.getD 2 n = m2 := by rw [List.getD_eq_getElem?_getD, hm]; rfl
   have HGm2 := hid (HG.out.kid (List.mem_of_getElem? hm))
   have HIm2 := hid (HIH.out m2 (List.mem_of_getElem? hm))
   have HMm2 := hid hm
   obtain ⟨u, hu, _, hcell⟩ := g3 2 m2 hm
   have HUm2 := hid hu
   obtain ⟨km2, kvm2, hk1, hue, hkr, q0, q1, q2, q3, q4, q5⟩ := jR hu hcell
   subst hue
   have HVm2 := hid hu
   simp only [Nat.reduceMul, Nat.add_zero, Nat.zero_add] at q0 q1 q2 q3 q4 q5
   have m2q0 := hid q0; have m2q1 := hid q1; have m2q2 := hid q2; have m2q3 := hid q3; have m2q4 := hid q4; have m2q5 := hid q5
   clear hu hcell hkr q0 q1 q2 q3 q4 q5 hm
   rw [hgt1, hgt2] at HP
   have HPP := hid HP
   have HLEN := hid hlen
   have hz1 : (1 : Int) < (n.list.length : Int) := by omega
   have hz2 : (2 : Int) ≤ (n.list.length : Int) := by omega
   have hz3 : (n.list.length : Int) ≤ (c : Int) := by omega
   clear HP hgt1 hgt2 hnd g3 hlen hlen2 hlen9
   replace EN : Hid (w1.heap[w.heap.size]? = some (.cells #[.int .i64 n.tok.kind, .int .i64 n.tok.pos, .string ⟨n.tok.text.toArray⟩, .int .i64 n.tok.int, .bool true, .slice (some ⟨g, of, none⟩) n.list.length c] 73 (0, 0))) := EN
   have n0 := jE HB.out m1q0.out
   have n1 := jE HB.out m1q1.out
   have n2 := jE HB.out m1q2.out
   have n3 := jE HB.out m1q3.out
   have n4 := jE HB.out m1q4.out
   have n5 := jE HB.out m1q5.out
   have enc0 := jA EN.out 0 _ rfl
   have enc1 := jA EN.out 1 _ rfl
   have enc2 := jA EN.out 2 _ rfl
   have enc3 := jA EN.out 3 _ rfl
   have enc4 := jA EN.out 4 _ rfl
   have enc5 := jA EN.out 5 _ rfl
   have enf := jD EN.out
   go_wp2_with fail
   clear enc0 enc1 enc2 enc3 enc4 enc5 enf
   clear n0 n1 n2 n3 n4 n5
   refine (size_any k m1 _ 1 8 _ (HVm1.out.below HB.out) (by omega) (by omega)).mono ?_
   rintro e w2 ⟨rfl, hb⟩
   replace hsz := Nat.le_trans hsz hb.size
   replace EN := hid (jC EN.out hb)
   replace ER := hid (jC ER.out hb)
   replace ET := hid (jC ET.out hb)
   replace HB := hid (HB.out.trans (hb.mono HB.out.size))
   clear hb
   unfold sizeP
   cases hn1 : Px.nodes m1 1 8 with
   | error p =>
     dsimp only
     have hge : (p : Int) ≥ 0 := by omega
     have HN1 := hid (show Px.names m1 1 = .error p by unfold Px.names; rw [hn1])
     clear hn1
     have erc0 := jA ER.out 0 _ rfl
     have erc1 := jA ER.out 1 _ rfl
     have erc2 := jA ER.out 2 _ rfl
     have erc3 := jA ER.out 3 _ rfl
     have erc4 := jA ER.out 4 _ rfl
     have erc5 := jA ER.out 5 _ rfl
     have erc6 := jA ER.out 6 _ rfl
     have erf := jD ER.out
     have etc0 := jA ET.out 0 _ rfl
     have etc1 := jA ET.out 1 _ rfl
     have etc2 := jA ET.out 2 _ rfl
     have etc3 := jA ET.out 3 _ rfl
     have etc4 := jA ET.out 4 _ rfl
     have etc5 := jA ET.out 5 _ rfl
     have etc6 := jA ET.out 6 _ rfl
     have etf := jD ET.out
     go_wp2_with fail
     replace EN := hid (jB (jB (jB (jB (jB (jB (jB (EN.out) (w.heap.size + 1) 0 (.int .i64 3) (by omega)) (w.heap.size + 1) 1 (.int .i64 n.tok.pos) (by omega)) (w.heap.size + 1) 2 (.string ⟨#[]⟩) (by omega)) (w.heap.size + 1) 3 (.int .i64 0) (by omega)) (w.heap.size + 1) 4 (.slice none 0 0) (by omega)) (w.heap.size + 1) 5 (.slice none 0 0) (by omega)) (w.heap.size + 1) 6 (.slice none 0 0) (by omega))
     replace ER := hid (jU (ER.out) (.int .i64 3) (.int .i64 n.tok.pos) (.string ⟨#[]⟩) (.int .i64 0) (.slice none 0 0) (.slice none 0 0) (.slice none 0 0))
     replace ET := hid (jB (jB (jB (jB (jB (jB (jB (ET.out) (w.heap.size + 1) 0 (.int .i64 3) (by omega)) (w.heap.size + 1) 1 (.int .i64 n.tok.pos) (by omega)) (w.heap.size + 1) 2 (.string ⟨#[]⟩) (by omega)) (w.heap.size + 1) 3 (.int .i64 0) (by omega)) (w.heap.size + 1) 4 (.slice none 0 0) (by omega)) (w.heap.size + 1) 5 (.slice none 0 0) (by omega)) (w.heap.size + 1) 6 (.slice none 0 0) (by omega))
     replace HB := hid (Below.setCell (Below.setCell (Below.setCell (Below.setCell (Below.setCell (Below.setCell (Below.setCell (HB.out) (p := ⟨w.heap.size + 1, 0, none⟩) (by dsimp only; omega) (.int .i64 3)) (p := ⟨w.heap.size + 1, 1, none⟩) (by dsimp only; omega) (.int .i64 n.tok.pos)) (p := ⟨w.heap.size + 1, 2, none⟩) (by dsimp only; omega) (.string ⟨#[]⟩)) (p := ⟨w.heap.size + 1, 3, none⟩) (by dsimp only; omega) (.int .i64 0)) (p := ⟨w.heap.size + 1, 4, none⟩) (by dsimp only; omega) (.slice none 0 0)) (p := ⟨w.heap.size + 1, 5, none⟩) (by dsimp only; omega) (.slice none 0 0)) (p := ⟨w.heap.size + 1, 6, none⟩) (by dsimp only; omega) (.slice none 0 0))
     have r0 := jA ER.out 0 _ rfl
     have r1 := jA ER.out 1 _ rfl
     have r2 := jA ER.out 2 _ rfl
     have r3 := jA ER.out 3 _ rfl
     have r4 := jA ER.out 4 _ rfl
     have r5 := jA ER.out 5 _ rfl
     have r6 := jA ER.out 6 _ rfl
     refine bodyPost_ret (v := .tuple #[.agg #[.int .i64 3, .int .i64 n.tok.pos, .string ⟨#[]⟩, .int .i64 0, .slice none 0 0, .slice none 0 0, .slice none 0 0], .int .i64 p]) (by simp [results, Try.results55, go_sem, r0, r1, r2, r3, r4, r5, r6]) rfl ?_
     exact jL (by rw [HPP.out, HN1.out]) HB.out ⟨_, _, _, _, _, _, _, _, _, _, _, _, _, rfl⟩
   | ok l1 =>
     dsimp only
     have HNL := hid (names_le hn1)
     clear hn1
     have HLO := hid hsz
     have n0 := jE HB.out m1q0.out
     have n1 := jE HB.out m1q1.out
     have n2 := jE HB.out m1q2.out
     have n3 := jE HB.out m1q3.out
     have n4 := jE HB.out m1q4.out
     have n5 := jE HB.out m1q5.out
     have enc0 := jA EN.out 0 _ rfl
     have enc1 := jA EN.out 1 _ rfl
     have enc2 := jA EN.out 2 _ rfl
     have enc3 := jA EN.out 3 _ rfl
     have enc4 := jA EN.out 4 _ rfl
     have enc5 := jA EN.out 5 _ rfl
     have enf := jD EN.out
     go_wp2_with fail
     clear enc0 enc1 enc2 enc3 enc4 enc5 enf
     clear n0 n1 n2 n3 n4 n5
     refine (names_any k m1 _ _ (HVm1.out.below HB.out) HGm1.out).mono ?_
     intro e w3 ht
     cases hnm : Px.names m1 0 with
     | error p =>
       obtain ⟨z, rfl, ⟨zq, zn, zc, rfl⟩, hb⟩ := jN ht hnm
       have hge : (p : Int) ≥ 0 := by omega
       replace hsz := Nat.le_trans hsz hb.size
       replace EN := hid (jC EN.out hb)
       replace ER := hid (jC ER.out hb)
       replace ET := hid (jC ET.out hb)
       replace HB := hid (HB.out.trans (hb.mono HB.out.size))
       clear hb
       have HNM := hid hnm; clear ht hnm
       have etc0 := jA ET.out 0 _ rfl
       have etc1 := jA ET.out 1 _ rfl
       have etc2 := jA ET.out 2 _ rfl
       have etc3 := jA ET.out 3 _ rfl
       have etc4 := jA ET.out 4 _ rfl
       have etc5 := jA ET.out 5 _ rfl
       have etc6 := jA ET.out 6 _ rfl
       have etf := jD ET.out
       go_upto_region 9 with fail
       clear etc0 etc1 etc2 etc3 etc4 etc5 etc6 etf
       replace EN := hid (jB (EN.out) (w.heap.size + 2) 4 (.slice zq zn zc) (by omega))
       replace ER := hid (jB (ER.out) (w.heap.size + 2) 4 (.slice zq zn zc) (by omega))
       replace ET := hid (jG #[.int .i64 3, .int .i64 n.tok.pos, .string ⟨#[]⟩, .int .i64 0, .slice zq zn zc, .slice none 0 0, .slice none 0 0] (ET.out) 4 (.slice zq zn zc) rfl)
       replace HB := hid (Below.setCell (HB.out) (p := ⟨w.heap.size + 2, 4, none⟩) (by dsimp only; omega) (.slice zq zn zc))
       replace hsz : w.heap.size + 3 ≤ (w3.setCell ⟨w.heap.size + 2, 4, none⟩ (.slice zq zn zc)).heap.size := by simpa using hsz
       generalize w3.setCell ⟨w.heap.size + 2, 4, none⟩ (.slice zq zn zc) = wz at *
       have erc0 := jA ER.out 0 _ rfl
       have erc1 := jA ER.out 1 _ rfl
       have erc2 := jA ER.out 2 _ rfl
       have erc3 := jA ER.out 3 _ rfl
       have erc4 := jA ER.out 4 _ rfl
       have erc5 := jA ER.out 5 _ rfl
       have erc6 := jA ER.out 6 _ rfl
       have erf := jD ER.out
       have etc0 := jA ET.out 0 _ rfl
       have etc1 := jA ET.out 1 _ rfl
       have etc2 := jA ET.out 2 _ rfl
       have etc3 := jA ET.out 3 _ rfl
       have etc4 := jA ET.out 4 _ rfl
       have etc5 := jA ET.out 5 _ rfl
       have etc6 := jA ET.out 6 _ rfl
       have etf := jD ET.out
       go_wp2_with fail
       replace EN := hid (jB (jB (jB (jB (jB (jB (jB (EN.out) (w.heap.size + 1) 0 (.int .i64 3) (by omega)) (w.heap.size + 1) 1 (.int .i64 n.tok.pos) (by omega)) (w.heap.size + 1) 2 (.string ⟨#[]⟩) (by omega)) (w.heap.size + 1) 3 (.int .i64 0) (by omega)) (w.heap.size + 1) 4 (.slice zq zn zc) (by omega)) (w.heap.size + 1) 5 (.slice none 0 0) (by omega)) (w.heap.size + 1) 6 (.slice none 0 0) (by omega))
       replace ER := hid (jU (ER.out) (.int .i64 3) (.int .i64 n.tok.pos) (.string ⟨#[]⟩) (.int .i64 0) (.slice zq zn zc) (.slice none 0 0) (.slice none 0 0))
       replace ET := hid (jB (jB (jB (jB (jB (jB (jB (ET.out) (w.heap.size + 1) 0 (.int .i64 3) (by omega)) (w.heap.size + 1) 1 (.int .i64 n.tok.pos) (by omega)) (w.heap.size + 1) 2 (.string ⟨#[]⟩) (by omega)) (w.heap.size + 1) 3 (.int .i64 0) (by omega)) (w.heap.size + 1) 4 (.slice zq zn zc) (by omega)) (w.heap.size + 1) 5 (.slice none 0 0) (by omega)) (w.heap.size + 1) 6 (.slice none 0 0) (by omega))
       replace HB := hid (Below.setCell (Below.setCell (Below.setCell (Below.setCell (Below.setCell (Below.setCell (Below.setCell (HB.out) (p := ⟨w.heap.size + 1, 0, none⟩) (by dsimp only; omega) (.int .i64 3)) (p := ⟨w.heap.size + 1, 1, none⟩) (by dsimp only; omega) (.int .i64 n.tok.pos)) (p := ⟨w.heap.size + 1, 2, none⟩) (by dsimp only; omega) (.string ⟨#[]⟩)) (p := ⟨w.heap.size + 1, 3, none⟩) (by dsimp only; omega) (.int .i64 0)) (p := ⟨w.heap.size + 1, 4, none⟩) (by dsimp only; omega) (.slice zq zn zc)) (p := ⟨w.heap.size + 1, 5, none⟩) (by dsimp only; omega) (.slice none 0 0)) (p := ⟨w.heap.size + 1, 6, none⟩) (by dsimp only; omega) (.slice none 0 0))
       have r0 := jA ER.out 0 _ rfl
       have r1 := jA ER.out 1 _ rfl
       have r2 := jA ER.out 2 _ rfl
       have r3 := jA ER.out 3 _ rfl
       have r4 := jA ER.out 4 _ rfl
       have r5 := jA ER.out 5 _ rfl
       have r6 := jA ER.out 6 _ rfl
       refine bodyPost_ret (v := .tuple #[.agg #[.int .i64 3, .int .i64 n.tok.pos, .string ⟨#[]⟩, .int .i64 0, .slice zq zn zc, .slice none 0 0, .slice none 0 0], .int .i64 p]) (by simp [results, Try.results55, go_sem, r0, r1, r2, r3, r4, r5, r6]) rfl ?_
       exact jL (by rw [HPP.out, ← HNL.out, HNM.out]) HB.out ⟨_, _, _, _, _, _, _, _, _, _, _, _, _, rfl⟩
     | ok ns =>
       obtain ⟨z, rfl, ⟨zq, zn, zc, rfl⟩, hnew, hb⟩ := rtold_ok ht hnm
       have HNEW1 := hid hnew
       have S1 := hid (Stay.refl w2.heap.size w3)
       replace hsz := Nat.le_trans hsz hb.size
       replace EN := hid (jC EN.out hb)
       replace ER := hid (jC ER.out hb)
       replace ET := hid (jC ET.out hb)
       replace HB := hid (HB.out.trans (hb.mono HB.out.size))
       clear hb
       have HNM := hid hnm; clear ht hnm hnew
       have etc0 := jA ET.out 0 _ rfl
       have etc1 := jA ET.out 1 _ rfl
       have etc2 := jA ET.out 2 _ rfl
       have etc3 := jA ET.out 3 _ rfl
       have etc4 := jA ET.out 4 _ rfl
       have etc5 := jA ET.out 5 _ rfl
       have etc6 := jA ET.out 6 _ rfl
       have etf := jD ET.out
       go_upto_region 9 with fail
       clear etc0 etc1 etc2 etc3 etc4 etc5 etc6 etf
       replace EN := hid (jB (EN.out) (w.heap.size + 2) 4 (.slice zq zn zc) (by omega))
       replace ER := hid (jB (ER.out) (w.heap.size + 2) 4 (.slice zq zn zc) (by omega))
       replace ET := hid (jG #[.int .i64 3, .int .i64 n.tok.pos, .string ⟨#[]⟩, .int .i64 0, .slice zq zn zc, .slice none 0 0, .slice none 0 0] (ET.out) 4 (.slice zq zn zc) rfl)
       replace HB := hid (Below.setCell (HB.out) (p := ⟨w.heap.size + 2, 4, none⟩) (by dsimp only; omega) (.slice zq zn zc))
       replace S1 := hid (Stay.set S1.out (w.heap.size + 2) 4 (.slice zq zn zc) (by have := HLO.out; omega))
       replace hsz : w.heap.size + 3 ≤ (w3.setCell ⟨w.heap.size + 2, 4, none⟩ (.slice zq zn zc)).heap.size := by simpa using hsz
       generalize w3.setCell ⟨w.heap.size + 2, 4, none⟩ (.slice zq zn zc) = wz at S1 hsz EN ER ET HB ⊢
       have hrow := row_drop (HR.out.mono HB.out (fun u x _ hu => hu.below HB.out)) 2 (by have := HLEN.out; omega)
       have hdr : n.list.drop 2 = [m2] := by
        have h2 := HMm2.out
        have h3 := HLEN.out
        have hlt : 2 < n.list.length := by omega
        rw [List.drop_eq_getElem_cons hlt, List.drop_eq_nil_of_le (by omega)]
        rw [List.getElem?_eq_getElem hlt] at h2
        rw [Option.some.inj h2]
       have hc2 : ¬ c = 2 := by have := HLEN.out; omega
       rw [hdr, if_neg hc2] at hrow
       simp only [Nat.reduceMul] at hrow
       have hex := exprs_any f k _ [m2] wz hrow (by simp) (fun m hm v w1 hv => by rw [List.mem_singleton.1 hm] at hv ⊢; exact HIm2.out v w1 hv)
       have HEX := hid hex
       clear hrow hdr hex
       have enc0 := jA EN.out 0 _ rfl
       have enc1 := jA EN.out 1 _ rfl
       have enc2 := jA EN.out 2 _ rfl
       have enc3 := jA EN.out 3 _ rfl
       have enc4 := jA EN.out 4 _ rfl
       have enc5 := jA EN.out 5 _ rfl
       have enf := jD EN.out
       go_wp2_with fail
       clear enc0 enc1 enc2 enc3 enc4 enc5 enf
       refine HEX.out.mono ?_
       intro e w4 ht4
       have hee : Px.each (Px.expr f) [m2] = (match Px.expr f m2 with | .error p => .error p | .ok x => .ok [x]) := by
        simp only [Px.each]; cases Px.expr f m2 <;> rfl
       cases hxm : Px.expr f m2 with
       | error p =>
         rw [hxm] at hee
         obtain ⟨z, rfl, ⟨yq, yn, yc, rfl⟩, hb⟩ := jN ht4 hee
         have hge : (p : Int) ≥ 0 := by omega
         replace hsz := Nat.le_trans hsz hb.size
         replace EN := hid (jC EN.out hb)
         replace ER := hid (jC ER.out hb)
         replace ET := hid (jC ET.out hb)
         replace HB := hid (HB.out.trans (hb.mono HB.out.size))
         clear hb
         have HXM := hid hxm; clear ht4 hxm hee
         have etc0 := jA ET.out 0 _ rfl
         have etc1 := jA ET.out 1 _ rfl
         have etc2 := jA ET.out 2 _ rfl
         have etc3 := jA ET.out 3 _ rfl
         have etc4 := jA ET.out 4 _ rfl
         have etc5 := jA ET.out 5 _ rfl
         have etc6 := jA ET.out 6 _ rfl
         have etf := jD ET.out
         go_upto_region 12 with fail
         clear etc0 etc1 etc2 etc3 etc4 etc5 etc6 etf
         replace EN := hid (jB (EN.out) (w.heap.size + 2) 5 (.slice yq yn yc) (by omega))
         replace ER := hid (jB (ER.out) (w.heap.size + 2) 5 (.slice yq yn yc) (by omega))
         replace ET := hid (jG #[.int .i64 3, .int .i64 n.tok.pos, .string ⟨#[]⟩, .int .i64 0, .slice zq zn zc, .slice yq yn yc, .slice none 0 0] (ET.out) 5 (.slice yq yn yc) rfl)
         replace HB := hid (Below.setCell (HB.out) (p := ⟨w.heap.size + 2, 5, none⟩) (by dsimp only; omega) (.slice yq yn yc))
         replace hsz : w.heap.size + 3 ≤ (w4.setCell ⟨w.heap.size + 2, 5, none⟩ (.slice yq yn yc)).heap.size := by simpa using hsz
         generalize w4.setCell ⟨w.heap.size + 2, 5, none⟩ (.slice yq yn yc) = wy at EN ER ET HB hsz ⊢
         have erc0 := jA ER.out 0 _ rfl
         have erc1 := jA ER.out 1 _ rfl
         have erc2 := jA ER.out 2 _ rfl
         have erc3 := jA ER.out 3 _ rfl
         have erc4 := jA ER.out 4 _ rfl
         have erc5 := jA ER.out 5 _ rfl
         have erc6 := jA ER.out 6 _ rfl
         have erf := jD ER.out
         have etc0 := jA ET.out 0 _ rfl
         have etc1 := jA ET.out 1 _ rfl
         have etc2 := jA ET.out 2 _ rfl
         have etc3 := jA ET.out 3 _ rfl
         have etc4 := jA ET.out 4 _ rfl
         have etc5 := jA ET.out 5 _ rfl
         have etc6 := jA ET.out 6 _ rfl
         have etf := jD ET.out
         go_wp2_with fail
         replace EN := hid (jB (jB (jB (jB (jB (jB (jB (EN.out) (w.heap.size + 1) 0 (.int .i64 3) (by omega)) (w.heap.size + 1) 1 (.int .i64 n.tok.pos) (by omega)) (w.heap.size + 1) 2 (.string ⟨#[]⟩) (by omega)) (w.heap.size + 1) 3 (.int .i64 0) (by omega)) (w.heap.size + 1) 4 (.slice zq zn zc) (by omega)) (w.heap.size + 1) 5 (.slice yq yn yc) (by omega)) (w.heap.size + 1) 6 (.slice none 0 0) (by omega))
         replace ER := hid (jU (ER.out) (.int .i64 3) (.int .i64 n.tok.pos) (.string ⟨#[]⟩) (.int .i64 0) (.slice zq zn zc) (.slice yq yn yc) (.slice none 0 0))
         replace ET := hid (jB (jB (jB (jB (jB (jB (jB (ET.out) (w.heap.size + 1) 0 (.int .i64 3) (by omega)) (w.heap.size + 1) 1 (.int .i64 n.tok.pos) (by omega)) (w.heap.size + 1) 2 (.string ⟨#[]⟩) (by omega)) (w.heap.size + 1) 3 (.int .i64 0) (by omega)) (w.heap.size + 1) 4 (.slice zq zn zc) (by omega)) (w.heap.size + 1) 5 (.slice yq yn yc) (by omega)) (w.heap.size + 1) 6 (.slice none 0 0) (by omega))
         replace HB := hid (Below.setCell (Below.setCell (Below.setCell (Below.setCell (Below.setCell (Below.setCell (Below.setCell (HB.out) (p := ⟨w.heap.size + 1, 0, none⟩) (by dsimp only; omega) (.int .i64 3)) (p := ⟨w.heap.size + 1, 1, none⟩) (by dsimp only; omega) (.int .i64 n.tok.pos)) (p := ⟨w.heap.size + 1, 2, none⟩) (by dsimp only; omega) (.string ⟨#[]⟩)) (p := ⟨w.heap.size + 1, 3, none⟩) (by dsimp only; omega) (.int .i64 0)) (p := ⟨w.heap.size + 1, 4, none⟩) (by dsimp only; omega) (.slice zq zn zc)) (p := ⟨w.heap.size + 1, 5, none⟩) (by dsimp only; omega) (.slice yq yn yc)) (p := ⟨w.heap.size + 1, 6, none⟩) (by dsimp only; omega) (.slice none 0 0))
         have r0 := jA ER.out 0 _ rfl
         have r1 := jA ER.out 1 _ rfl
         have r2 := jA ER.out 2 _ rfl
         have r3 := jA ER.out 3 _ rfl
         have r4 := jA ER.out 4 _ rfl
         have r5 := jA ER.out 5 _ rfl
         have r6 := jA ER.out 6 _ rfl
         refine bodyPost_ret (v := .tuple #[.agg #[.int .i64 3, .int .i64 n.tok.pos, .string ⟨#[]⟩, .int .i64 0, .slice zq zn zc, .slice yq yn yc, .slice none 0 0], .int .i64 p]) (by simp [results, Try.results55, go_sem, r0, r1, r2, r3, r4, r5, r6]) rfl ?_
         exact jL (by rw [HPP.out, ← HNL.out, HNM.out]; dsimp only; rw [HXM.out]) HB.out ⟨_, _, _, _, _, _, _, _, _, _, _, _, _, rfl⟩
       | ok x =>
         rw [hxm] at hee
         obtain ⟨z, rfl, ⟨yq, yn, yc, rfl⟩, hnew4, hb⟩ := rtold_ok ht4 hee
         have HNEW2 := hid hnew4
         have HLO2 := hid hsz
         replace S1 := hid (S1.out.below hb)
         have S2 := hid (Stay.refl wz.heap.size w4)
         replace hsz := Nat.le_trans hsz hb.size
         replace EN := hid (jC EN.out hb)
         replace ER := hid (jC ER.out hb)
         replace ET := hid (jC ET.out hb)
         replace HB := hid (HB.out.trans (hb.mono HB.out.size))
         clear hb
         have HXM := hid hxm; clear ht4 hxm hee hnew4
         have etc0 := jA ET.out 0 _ rfl
         have etc1 := jA ET.out 1 _ rfl
         have etc2 := jA ET.out 2 _ rfl
         have etc3 := jA ET.out 3 _ rfl
         have etc4 := jA ET.out 4 _ rfl
         have etc5 := jA ET.out 5 _ rfl
         have etc6 := jA ET.out 6 _ rfl
         have etf := jD ET.out
         go_upto_region 12 with fail
         clear etc0 etc1 etc2 etc3 etc4 etc5 etc6 etf
         replace EN := hid (jB (EN.out) (w.heap.size + 2) 5 (.slice yq yn yc) (by omega))
         replace ER := hid (jB (ER.out) (w.heap.size + 2) 5 (.slice yq yn yc) (by omega))
         replace ET := hid (jG #[.int .i64 3, .int .i64 n.tok.pos, .string ⟨#[]⟩, .int .i64 0, .slice zq zn zc, .slice yq yn yc, .slice none 0 0] (ET.out) 5 (.slice yq yn yc) rfl)
         replace HB := hid (Below.setCell (HB.out) (p := ⟨w.heap.size + 2, 5, none⟩) (by dsimp only; omega) (.slice yq yn yc))
         replace S1 := hid (Stay.set S1.out (w.heap.size + 2) 5 (.slice yq yn yc) (by have := HLO.out; omega))
         replace S2 := hid (Stay.set S2.out (w.heap.size + 2) 5 (.slice yq yn yc) (by have := HLO2.out; omega))
         replace hsz : w.heap.size + 3 ≤ (w4.setCell ⟨w.heap.size + 2, 5, none⟩ (.slice yq yn yc)).heap.size := by simpa using hsz
         generalize w4.setCell ⟨w.heap.size + 2, 5, none⟩ (.slice yq yn yc) = wy at S1 S2 EN ER ET HB hsz ⊢
         have erc0 := jA ER.out 0 _ rfl
         have erc1 := jA ER.out 1 _ rfl
         have erc2 := jA ER.out 2 _ rfl
         have erc3 := jA ER.out 3 _ rfl
         have erc4 := jA ER.out 4 _ rfl
         have erc5 := jA ER.out 5 _ rfl
         have erc6 := jA ER.out 6 _ rfl
         have erf := jD ER.out
         have etc0 := jA ET.out 0 _ rfl
         have etc1 := jA ET.out 1 _ rfl
         have etc2 := jA ET.out 2 _ rfl
         have etc3 := jA ET.out 3 _ rfl
         have etc4 := jA ET.out 4 _ rfl
         have etc5 := jA ET.out 5 _ rfl
         have etc6 := jA ET.out 6 _ rfl
         have etf := jD ET.out
         go_wp2_with fail
         replace EN := hid (jB (jB (jB (jB (jB (jB (jB (EN.out) (w.heap.size + 1) 0 (.int .i64 3) (by omega)) (w.heap.size + 1) 1 (.int .i64 n.tok.pos) (by omega)) (w.heap.size + 1) 2 (.string ⟨#[]⟩) (by omega)) (w.heap.size + 1) 3 (.int .i64 0) (by omega)) (w.heap.size + 1) 4 (.slice zq zn zc) (by omega)) (w.heap.size + 1) 5 (.slice yq yn yc) (by omega)) (w.heap.size + 1) 6 (.slice none 0 0) (by omega))
         replace ER := hid (jU (ER.out) (.int .i64 3) (.int .i64 n.tok.pos) (.string ⟨#[]⟩) (.int .i64 0) (.slice zq zn zc) (.slice yq yn yc) (.slice none 0 0))
         replace ET := hid (jB (jB (jB (jB (jB (jB (jB (ET.out) (w.heap.size + 1) 0 (.int .i64 3) (by omega)) (w.heap.size + 1) 1 (.int .i64 n.tok.pos) (by omega)) (w.heap.size + 1) 2 (.string ⟨#[]⟩) (by omega)) (w.heap.size + 1) 3 (.int .i64 0) (by omega)) (w.heap.size + 1) 4 (.slice zq zn zc) (by omega)) (w.heap.size + 1) 5 (.slice yq yn yc) (by omega)) (w.heap.size + 1) 6 (.slice none 0 0) (by omega))
         replace HB := hid (Below.setCell (Below.setCell (Below.setCell (Below.setCell (Below.setCell (Below.setCell (Below.setCell (HB.out) (p := ⟨w.heap.size + 1, 0, none⟩) (by dsimp only; omega) (.int .i64 3)) (p := ⟨w.heap.size + 1, 1, none⟩) (by dsimp only; omega) (.int .i64 n.tok.pos)) (p := ⟨w.heap.size + 1, 2, none⟩) (by dsimp only; omega) (.string ⟨#[]⟩)) (p := ⟨w.heap.size + 1, 3, none⟩) (by dsimp only; omega) (.int .i64 0)) (p := ⟨w.heap.size + 1, 4, none⟩) (by dsimp only; omega) (.slice zq zn zc)) (p := ⟨w.heap.size + 1, 5, none⟩) (by dsimp only; omega) (.slice yq yn yc)) (p := ⟨w.heap.size + 1, 6, none⟩) (by dsimp only; omega) (.slice none 0 0))
         have r0 := jA ER.out 0 _ rfl
         have r1 := jA ER.out 1 _ rfl
         have r2 := jA ER.out 2 _ rfl
         have r3 := jA ER.out 3 _ rfl
         have r4 := jA ER.out 4 _ rfl
         have r5 := jA ER.out 5 _ rfl
         have r6 := jA ER.out 6 _ rfl
         refine bodyPost_ret (v := .tuple #[.agg #[.int .i64 3, .int .i64 n.tok.pos, .string ⟨#[]⟩, .int .i64 0, .slice zq zn zc, .slice yq yn yc, .slice none 0 0], .int .i64 (-1)]) (by simp [results, Try.results55, go_sem, r0, r1, r2, r3, r4, r5, r6]) rfl ?_
         exact jO (x := Px.Expr.mk 3 n.pos [] 0 ns [x] []) (by rw [HPP.out, ← HNL.out, HNM.out]; dsimp only; rw [HXM.out]) HB.out ⟨_, _, _, _, _, _, _, _, _, _, _, _, _, rfl⟩ (fun u hu => ⟨_, _, _, rfl, New.stay HNEW1.out (by have := HLO.out; omega) (Stay.set (Stay.set (Stay.set (Stay.set (Stay.set (Stay.set (Stay.set (S1.out) (w.heap.size + 1) 0 _ (by have := HLO.out; omega)) (w.heap.size + 1) 1 _ (by have := HLO.out; omega)) (w.heap.size + 1) 2 _ (by have := HLO.out; omega)) (w.heap.size + 1) 3 _ (by have := HLO.out; omega)) (w.heap.size + 1) 4 _ (by have := HLO.out; omega)) (w.heap.size + 1) 5 _ (by have := HLO.out; omega)) (w.heap.size + 1) 6 _ (by have := HLO.out; omega)) u hu, New.stay HNEW2.out (by have := HLO2.out; omega) (Stay.set (Stay.set (Stay.set (Stay.set (Stay.set (Stay.set (Stay.set (S2.out) (w.heap.size + 1) 0 _ (by have := HLO2.out; omega)) (w.heap.size + 1) 1 _ (by have := HLO2.out; omega)) (w.heap.size + 1) 2 _ (by have := HLO2.out; omega)) (w.heap.size + 1) 3 _ (by have := HLO2.out; omega)) (w.heap.size + 1) 4 _ (by have := HLO2.out; omega)) (w.heap.size + 1) 5 _ (by have := HLO2.out; omega)) (w.heap.size + 1) 6 _ (by have := HLO2.out; omega)) u hu, .inl ⟨rfl, none, 0, rfl⟩⟩)
end Go.Proofs.Ytgoacbomphlhjaa
