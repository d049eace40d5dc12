/-
  Several texts in one: RExD, RExpr.
-/
import Derived.Test.YtgoacbomphlhjaaP00
import Derived.Test.YtgoacbomphlhjaaP11
import Derived.Test.YtgoacbomphlhjaaP02
import Derived.Deep.DeepCutAuto
import Derived.BigRegion
import Derived.Test.YtgoacbomphlhjaaP10
set_option linter.unusedVariables false
set_option linter.unusedSimpArgs false
namespace Go.Proofs.Ytgoacbomphlhjaa
open Go.Lib (hid)
open List renaming getElem_toArray → jX, getElem_cons_succ → jY, getElem_cons_zero → jZ, setIfInBounds_toArray → JA, set_cons_zero → JB, set_cons_succ → JC
open Go Go.RowKit
theorem takesOf_le (s : List UInt8) : Px.takesOf s ≤ 2 := by
 unfold Px.takesOf
 split
 · exact Nat.le_refl _
 · split <;> omega
theorem takes_le {m : Px.Node} (h : Px.NodeGood m) : m.takes ≤ 2 := by
 rw [← Px.takesR_eq h]
 unfold Px.takesR
 split
 · omega
 · exact takesOf_le _
theorem hold_nodes {n : Px.Node} (hl : Px.jS n = true) (a b : Nat) : Px.nodes n a b = (match Px.hold n a b with | .error p => .error p | .ok _ => .ok n.list) := by
 unfold Px.nodes; rw [if_pos hl]; cases Px.hold n a b <;> rfl
set_option maxHeartbeats 8000000 in
set_option maxRecDepth 100000 in
theorem expr_plain (f k : Nat) (n : Px.Node) (v : Value) (w : World) (hn : NdAt (k + 1) w v n) (hg : Px.NodeGood n) (hl : Px.jS n = true) (hw1 : Px.word n ≠ [102, 110]) (hw2 : Px.word n ≠ [108, 101, 116]) (hw3 : Px.word n ≠ [99, 97, 115, 101]) (ih : ∀ m ∈ n.list, ∀ v w1, NdAt k w1 v m → Calls Try.prog 28 #[v] w1 (RTold w1 (ExprAt f) ShExpr (Px.expr f m))) : Calls Try.prog 28 #[v] w (RTold w (ExprAt (f + 1)) ShExpr (Px.expr (f + 1) n)) := by
 have HN0 := hid hn
 obtain ⟨lv, rfl, hr⟩ := hn
 obtain ⟨q, c, rfl⟩ := hr.len
 have hp0 : Px.expr (f + 1) n = (if Px.word n = [102, 110] then Px.fnExpr (Px.expr f) n else if Px.word n = [108, 101, 116] then Px.letExpr (Px.expr f) n else if Px.word n = [99, 97, 115, 101] then Px.caseExpr f (Px.expr f) n else Px.plainExpr (Px.expr f) n) := by
  rw [Px.expr, if_pos hl]; rfl
 have HPE : Hid (Px.expr (f + 1) n = Px.plainExpr (Px.expr f) n) := hid (by rw [hp0, if_neg hw1, if_neg hw2, if_neg hw3])
 have HIH := hid ih; have HR := hid hr; have HG := hid hg; have HL := hid hl; clear ih
 have hh1 : Px.headB n [102, 110] = false := by rw [Px.head_eq hg [102, 110] (by decide) (by unfold Px.Plain; decide) (by decide)]; exact decide_eq_false hw1
 have HH1 := hid hh1
 have hh2 : Px.headB n [108, 101, 116] = false := by rw [Px.head_eq hg [108, 101, 116] (by decide) (by unfold Px.Plain; decide) (by decide)]; exact decide_eq_false hw2
 have HH2 := hid hh2
 have hh3 : Px.headB n [99, 97, 115, 101] = false := by rw [Px.head_eq hg [99, 97, 115, 101] (by decide) (by unfold Px.Plain; decide) (by decide)]; exact decide_eq_false hw3
 have HH3 := hid hh3
 have HHD := hid (fun w1 (hb : Below w.heap.size w w1) (s : List UInt8) => head_any (k + 1) n _ s w1 (HN0.out.below hb))
 clear hr hg hp0 hw1 hh1 hw2 hh2 hw3 hh3
 unfold nV at *
 rw [hl] at HN0 HHD ⊢
 clear hl
 go_enter Try.func28, Try.ntmps28
 obtain ⟨en, er, et, hb, hsz⟩ := ent3 w #[.int .i64 n.tok.kind, .int .i64 n.tok.pos, .string ⟨n.tok.text.toArray⟩, .int .i64 n.tok.int, .bool true, (.slice q n.list.length c)] #[.int .i64 0, .int .i64 0, .string ⟨#[]⟩, .int .i64 0, .slice none 0 0, .slice none 0 0, .slice none 0 0] #[.int .i64 0, .int .i64 n.tok.pos, .string ⟨#[]⟩, .int .i64 0, .slice none 0 0, .slice none 0 0, .slice none 0 0] 73 53 53
 have EN := hid en; have ER := hid er; have ET := hid et; have HB := hid hb
 replace hsz := Nat.le_of_eq hsz.symm
 clear en er et hb
 have enc0 := jA EN.out 0 _ rfl
 have enc1 := jA EN.out 1 _ rfl
 have enc2 := jA EN.out 2 _ rfl
 have enc3 := jA EN.out 3 _ rfl
 have enc4 := jA EN.out 4 _ rfl
 have enc5 := jA EN.out 5 _ rfl
 have enf := jD EN.out
 go_wp2_with fail
 clear enc0 enc1 enc2 enc3 enc4 enc5 enf
 refine (HHD.out _ HB.out [102, 110]).mono ?_
 rintro e wq1 ⟨rfl, hb⟩
 rw [HH1.out]
 replace hsz := Nat.le_trans hsz hb.size
 replace EN := hid (jC EN.out hb)
 replace ER := hid (jC ER.out hb)
 replace ET := hid (jC ET.out hb)
 replace HB := hid (HB.out.trans (hb.mono HB.out.size))
 clear hb
 have enc0 := jA EN.out 0 _ rfl
 have enc1 := jA EN.out 1 _ rfl
 have enc2 := jA EN.out 2 _ rfl
 have enc3 := jA EN.out 3 _ rfl
 have enc4 := jA EN.out 4 _ rfl
 have enc5 := jA EN.out 5 _ rfl
 have enf := jD EN.out
 go_wp2_with fail
 clear enc0 enc1 enc2 enc3 enc4 enc5 enf
 refine (HHD.out _ HB.out [108, 101, 116]).mono ?_
 rintro e wq2 ⟨rfl, hb⟩
 rw [HH2.out]
 replace hsz := Nat.le_trans hsz hb.size
 replace EN := hid (jC EN.out hb)
 replace ER := hid (jC ER.out hb)
 replace ET := hid (jC ET.out hb)
 replace HB := hid (HB.out.trans (hb.mono HB.out.size))
 clear hb
 have enc0 := jA EN.out 0 _ rfl
 have enc1 := jA EN.out 1 _ rfl
 have enc2 := jA EN.out 2 _ rfl
 have enc3 := jA EN.out 3 _ rfl
 have enc4 := jA EN.out 4 _ rfl
 have enc5 := jA EN.out 5 _ rfl
 have enf := jD EN.out
 go_wp2_with fail
 clear enc0 enc1 enc2 enc3 enc4 enc5 enf
 refine (HHD.out _ HB.out [99, 97, 115, 101]).mono ?_
 rintro e wq3 ⟨rfl, hb⟩
 rw [HH3.out]
 replace hsz := Nat.le_trans hsz hb.size
 replace EN := hid (jC EN.out hb)
 replace ER := hid (jC ER.out hb)
 replace ET := hid (jC ET.out hb)
 replace HB := hid (HB.out.trans (hb.mono HB.out.size))
 clear hb
 have enc0 := jA EN.out 0 _ rfl
 have enc1 := jA EN.out 1 _ rfl
 have enc2 := jA EN.out 2 _ rfl
 have enc3 := jA EN.out 3 _ rfl
 have enc4 := jA EN.out 4 _ rfl
 have enc5 := jA EN.out 5 _ rfl
 have enf := jD EN.out
 go_wp2_with fail
 clear enc0 enc1 enc2 enc3 enc4 enc5 enf
 refine (size_any (k + 1) n _ 2 9 _ (HN0.out.below HB.out) (by omega) (by omega)).mono ?_
 rintro e w1 ⟨rfl, hb⟩
 replace hsz := Nat.le_trans hsz hb.size
 replace EN := hid (jC EN.out hb)
 replace ER := hid (jC ER.out hb)
 replace ET := hid (jC ET.out hb)
 replace HB := hid (HB.out.trans (hb.mono HB.out.size))
 clear hb
 unfold sizeP
 cases hnd : Px.nodes n 2 9 with
 | error p =>
   dsimp only
   have hge : (p : Int) ≥ 0 := by omega
   have HX : Hid (Px.plainExpr (Px.expr f) n = .error p) := hid (by unfold Px.plainExpr; rw [hnd])
   clear hnd
   have erc0 := jA ER.out 0 _ rfl
   have erc1 := jA ER.out 1 _ rfl
   have erc2 := jA ER.out 2 _ rfl
   have erc3 := jA ER.out 3 _ rfl
   have erc4 := jA ER.out 4 _ rfl
   have erc5 := jA ER.out 5 _ rfl
   have erc6 := jA ER.out 6 _ rfl
   have erf := jD ER.out
   have etc0 := jA ET.out 0 _ rfl
   have etc1 := jA ET.out 1 _ rfl
   have etc2 := jA ET.out 2 _ rfl
   have etc3 := jA ET.out 3 _ rfl
   have etc4 := jA ET.out 4 _ rfl
   have etc5 := jA ET.out 5 _ rfl
   have etc6 := jA ET.out 6 _ rfl
   have etf := jD ET.out
   go_wp2_with fail
   replace EN := hid (jB (jB (jB (jB (jB (jB (jB (EN.out) (w.heap.size + 1) 0 (.int .i64 0) (by omega)) (w.heap.size + 1) 1 (.int .i64 n.tok.pos) (by omega)) (w.heap.size + 1) 2 (.string ⟨#[]⟩) (by omega)) (w.heap.size + 1) 3 (.int .i64 0) (by omega)) (w.heap.size + 1) 4 (.slice none 0 0) (by omega)) (w.heap.size + 1) 5 (.slice none 0 0) (by omega)) (w.heap.size + 1) 6 (.slice none 0 0) (by omega))
   replace ER := hid (jU (ER.out) (.int .i64 0) (.int .i64 n.tok.pos) (.string ⟨#[]⟩) (.int .i64 0) (.slice none 0 0) (.slice none 0 0) (.slice none 0 0))
   replace ET := hid (jB (jB (jB (jB (jB (jB (jB (ET.out) (w.heap.size + 1) 0 (.int .i64 0) (by omega)) (w.heap.size + 1) 1 (.int .i64 n.tok.pos) (by omega)) (w.heap.size + 1) 2 (.string ⟨#[]⟩) (by omega)) (w.heap.size + 1) 3 (.int .i64 0) (by omega)) (w.heap.size + 1) 4 (.slice none 0 0) (by omega)) (w.heap.size + 1) 5 (.slice none 0 0) (by omega)) (w.heap.size + 1) 6 (.slice none 0 0) (by omega))
   replace HB := hid (Below.setCell (Below.setCell (Below.setCell (Below.setCell (Below.setCell (Below.setCell (Below.setCell (HB.out) (p := ⟨w.heap.size + 1, 0, none⟩) (by dsimp only; omega) (.int .i64 0)) (p := ⟨w.heap.size + 1, 1, none⟩) (by dsimp only; omega) (.int .i64 n.tok.pos)) (p := ⟨w.heap.size + 1, 2, none⟩) (by dsimp only; omega) (.string ⟨#[]⟩)) (p := ⟨w.heap.size + 1, 3, none⟩) (by dsimp only; omega) (.int .i64 0)) (p := ⟨w.heap.size + 1, 4, none⟩) (by dsimp only; omega) (.slice none 0 0)) (p := ⟨w.heap.size + 1, 5, none⟩) (by dsimp only; omega) (.slice none 0 0)) (p := ⟨w.heap.size + 1, 6, none⟩) (by dsimp only; omega) (.slice none 0 0))
   have r0 := jA ER.out 0 _ rfl
   have r1 := jA ER.out 1 _ rfl
   have r2 := jA ER.out 2 _ rfl
   have r3 := jA ER.out 3 _ rfl
   have r4 := jA ER.out 4 _ rfl
   have r5 := jA ER.out 5 _ rfl
   have r6 := jA ER.out 6 _ rfl
   refine bodyPost_ret (v := .tuple #[.agg #[.int .i64 0, .int .i64 n.tok.pos, .string ⟨#[]⟩, .int .i64 0, .slice none 0 0, .slice none 0 0, .slice none 0 0], .int .i64 p]) (by simp [results, Try.results28, go_sem, r0, r1, r2, r3, r4, r5, r6]) rfl ?_
   exact jL (by rw [HPE.out, HX.out]) HB.out ⟨_, _, _, _, _, _, _, _, _, _, _, _, _, rfl⟩
 | ok l =>
   dsimp only
   have hni := jW hnd
   have hll := hni.1
   have hlen2 := hni.2.1
   have hlen9 := hni.2.2.1
   clear hni
   subst hll
   rcases HR.out with ⟨h0, _⟩ | ⟨g, of, c', hv, g1, g2, g3⟩
   · rw [h0] at hlen2; simp at hlen2
   injection hv with hqq _ hqc
   subst hqq; subst hqc
   obtain ⟨m1, hm⟩ : ∃ m, n.list[0]? = some m := ⟨_, List.getElem?_eq_getElem (by omega)⟩
   have hgt0 : n.list.headD n = m1 := by
    cases hh : n.list with
    | nil => rw [hh] at hm; simp at hm
    | cons a r => rw [hh] at hm; simp at hm; simp [hm]
   have HGm1 := hid (HG.out.kid (List.mem_of_getElem? hm))
   obtain ⟨u, hu, _, hcell⟩ := g3 0 m1 hm
   obtain ⟨km1, kvm1, hk1, hue, hkr, q0, q1, q2, q3, q4, q5⟩ := jR hu hcell
   subst hue
   obtain ⟨pvm1, cvm1, rfl⟩ := hkr.len
   have HVm1 := hid hu
   simp only [Nat.zero_mul, Nat.add_zero] at q0 q1 q2 q3 q4 q5
   have m1q0 := hid q0; have m1q1 := hid q1; have m1q2 := hid q2; have m1q3 := hid q3; have m1q4 := hid q4; have m1q5 := hid q5
   clear hu hcell hkr q0 q1 q2 q3 q4 q5 hm
   have hX0 : Px.plainExpr (Px.expr f) n = (if 0 < m1.takes then (match Px.hold n (1 + m1.takes) (1 + m1.takes) with | .error p => .error p | .ok _ => match Px.each (Px.expr f) n.list.tail with | .error p => .error p | .ok xs => .ok (.mk 7 n.pos m1.text 0 [] xs [])) else if Px.isConB m1 then (match Px.each (Px.expr f) n.list.tail with | .error p => .error p | .ok xs => .ok (.mk 2 n.pos m1.text 0 [] xs [])) else (match Px.each (Px.expr f) n.list with | .error p => .error p | .ok xs => .ok (.mk 6 n.pos [] 0 [] xs []))) := by
    unfold Px.plainExpr; rw [hnd]; dsimp only; rw [hgt0]; rfl
   have HX0 := hid hX0
   have HLEN : Hid (2 ≤ n.list.length ∧ n.list.length ≤ 9) := hid ⟨hlen2, hlen9⟩
   have hz0 : (0 : Int) < (n.list.length : Int) := by omega
   have hz1 : (1 : Int) ≤ (n.list.length : Int) := by omega
   have hz3 : (n.list.length : Int) ≤ (c : Int) := by omega
   clear hX0 hgt0 hnd g3 hlen2 hlen9
   have n0 := jE HB.out m1q0.out
   have n1 := jE HB.out m1q1.out
   have n2 := jE HB.out m1q2.out
   have n3 := jE HB.out m1q3.out
   have n4 := jE HB.out m1q4.out
   have n5 := jE HB.out m1q5.out
   have enc0 := jA EN.out 0 _ rfl
   have enc1 := jA EN.out 1 _ rfl
   have enc2 := jA EN.out 2 _ rfl
   have enc3 := jA EN.out 3 _ rfl
   have enc4 := jA EN.out 4 _ rfl
   have enc5 := jA EN.out 5 _ rfl
   have enf := jD EN.out
   go_wp2_with fail
   clear enc0 enc1 enc2 enc3 enc4 enc5 enf
   clear n0 n1 n2 n3 n4 n5
   obtain ⟨gf, hgf⟩ : ∃ gf, gf = w1.heap.size := ⟨_, rfl⟩
   have hgf3 : w.heap.size + 3 ≤ gf := by omega
   have EF : Hid ((w1.alloc (.cells #[.int .i64 m1.tok.kind, .int .i64 m1.tok.pos, .string ⟨m1.tok.text.toArray⟩, .int .i64 m1.tok.int, .bool (Px.jS m1), .slice pvm1 m1.list.length cvm1] 73)).heap[gf]? = some (.cells #[.int .i64 m1.tok.kind, .int .i64 m1.tok.pos, .string ⟨m1.tok.text.toArray⟩, .int .i64 m1.tok.int, .bool (Px.jS m1), .slice pvm1 m1.list.length cvm1] 73 (0, 0))) := hid (by rw [hgf]; exact jI w1 _ _)
   replace EN := hid (jH EN.out (.cells #[.int .i64 m1.tok.kind, .int .i64 m1.tok.pos, .string ⟨m1.tok.text.toArray⟩, .int .i64 m1.tok.int, .bool (Px.jS m1), .slice pvm1 m1.list.length cvm1] 73))
   replace ER := hid (jH ER.out (.cells #[.int .i64 m1.tok.kind, .int .i64 m1.tok.pos, .string ⟨m1.tok.text.toArray⟩, .int .i64 m1.tok.int, .bool (Px.jS m1), .slice pvm1 m1.list.length cvm1] 73))
   replace ET := hid (jH ET.out (.cells #[.int .i64 m1.tok.kind, .int .i64 m1.tok.pos, .string ⟨m1.tok.text.toArray⟩, .int .i64 m1.tok.int, .bool (Px.jS m1), .slice pvm1 m1.list.length cvm1] 73))
   replace HB := hid (HB.out.alloc HB.out.size (.cells #[.int .i64 m1.tok.kind, .int .i64 m1.tok.pos, .string ⟨m1.tok.text.toArray⟩, .int .i64 m1.tok.int, .bool (Px.jS m1), .slice pvm1 m1.list.length cvm1] 73))
   replace hsz : w.heap.size + 3 ≤ (w1.alloc (.cells #[.int .i64 m1.tok.kind, .int .i64 m1.tok.pos, .string ⟨m1.tok.text.toArray⟩, .int .i64 m1.tok.int, .bool (Px.jS m1), .slice pvm1 m1.list.length cvm1] 73)).heap.size := by simp; omega
   rw [← hgf]
   generalize w1.alloc (.cells #[.int .i64 m1.tok.kind, .int .i64 m1.tok.pos, .string ⟨m1.tok.text.toArray⟩, .int .i64 m1.tok.int, .bool (Px.jS m1), .slice pvm1 m1.list.length cvm1] 73) = W1 at EF EN ER ET HB hsz ⊢
   clear hgf
   refine (takes_any m1 (.slice pvm1 m1.list.length cvm1) _).mono ?_
   rintro e w2 ⟨rfl, hb⟩
   rw [Px.takesR_eq HGm1.out]
   replace hsz := Nat.le_trans hsz hb.size
   replace EN := hid (jC EN.out hb)
   replace ER := hid (jC ER.out hb)
   replace ET := hid (jC ET.out hb)
   replace EF := hid (jC EF.out hb)
   replace HB := hid (HB.out.trans (hb.mono HB.out.size))
   clear hb
   have hT2 := takes_le HGm1.out
   by_cases hT : 0 < m1.takes
   · skip
     have hTi : (m1.takes : Int) > 0 := by omega
     have hs := size_any (k + 1) n _ (m1.takes + 1) (m1.takes + 1) w2 (HN0.out.below HB.out) (by omega) (by omega)
     rw [show ((m1.takes + 1 : Nat) : Int) = (m1.takes : Int) + 1 from by omega] at hs
     have he : sizeP n (m1.takes + 1) (m1.takes + 1) = (match Px.hold n (1 + m1.takes) (1 + m1.takes) with | .error p => (p : Int) | .ok _ => -1) := by
      unfold sizeP; rw [hold_nodes HL.out, Nat.add_comm]; cases Px.hold n (1 + m1.takes) (1 + m1.takes) <;> rfl
     rw [he] at hs
     have HS := hid hs
     have HX1 := hid (HX0.out.trans (if_pos hT))
     clear hs he hT HX0
     have enc0 := jA EN.out 0 _ rfl
     have enc1 := jA EN.out 1 _ rfl
     have enc2 := jA EN.out 2 _ rfl
     have enc3 := jA EN.out 3 _ rfl
     have enc4 := jA EN.out 4 _ rfl
     have enc5 := jA EN.out 5 _ rfl
     have enf := jD EN.out
     have efc0 := jA EF.out 0 _ rfl
     have efc1 := jA EF.out 1 _ rfl
     have efc2 := jA EF.out 2 _ rfl
     have efc3 := jA EF.out 3 _ rfl
     have efc4 := jA EF.out 4 _ rfl
     have efc5 := jA EF.out 5 _ rfl
     have eff := jD EF.out
     go_wp2_with fail
     clear enc0 enc1 enc2 enc3 enc4 enc5 enf efc0 efc1 efc2 efc3 efc4 efc5 eff
     refine HS.out.mono ?_
     rintro e w3 ⟨rfl, hb⟩
     replace hsz := Nat.le_trans hsz hb.size
     replace EN := hid (jC EN.out hb)
     replace ER := hid (jC ER.out hb)
     replace ET := hid (jC ET.out hb)
     replace EF := hid (jC EF.out hb)
     replace HB := hid (HB.out.trans (hb.mono HB.out.size))
     clear hb
     cases hh : Px.hold n (1 + m1.takes) (1 + m1.takes) with
     | error p =>
       dsimp only
       have hge : (p : Int) ≥ 0 := by omega
       have HX : Hid (Px.plainExpr (Px.expr f) n = .error p) := hid (by rw [HX1.out, hh])
       clear hh
       have erc0 := jA ER.out 0 _ rfl
       have erc1 := jA ER.out 1 _ rfl
       have erc2 := jA ER.out 2 _ rfl
       have erc3 := jA ER.out 3 _ rfl
       have erc4 := jA ER.out 4 _ rfl
       have erc5 := jA ER.out 5 _ rfl
       have erc6 := jA ER.out 6 _ rfl
       have erf := jD ER.out
       have etc0 := jA ET.out 0 _ rfl
       have etc1 := jA ET.out 1 _ rfl
       have etc2 := jA ET.out 2 _ rfl
       have etc3 := jA ET.out 3 _ rfl
       have etc4 := jA ET.out 4 _ rfl
       have etc5 := jA ET.out 5 _ rfl
       have etc6 := jA ET.out 6 _ rfl
       have etf := jD ET.out
       go_wp2_with fail
       replace EN := hid (jB (jB (jB (jB (jB (jB (jB (EN.out) (w.heap.size + 1) 0 (.int .i64 0) (by omega)) (w.heap.size + 1) 1 (.int .i64 n.tok.pos) (by omega)) (w.heap.size + 1) 2 (.string ⟨#[]⟩) (by omega)) (w.heap.size + 1) 3 (.int .i64 0) (by omega)) (w.heap.size + 1) 4 (.slice none 0 0) (by omega)) (w.heap.size + 1) 5 (.slice none 0 0) (by omega)) (w.heap.size + 1) 6 (.slice none 0 0) (by omega))
       replace ER := hid (jU (ER.out) (.int .i64 0) (.int .i64 n.tok.pos) (.string ⟨#[]⟩) (.int .i64 0) (.slice none 0 0) (.slice none 0 0) (.slice none 0 0))
       replace ET := hid (jB (jB (jB (jB (jB (jB (jB (ET.out) (w.heap.size + 1) 0 (.int .i64 0) (by omega)) (w.heap.size + 1) 1 (.int .i64 n.tok.pos) (by omega)) (w.heap.size + 1) 2 (.string ⟨#[]⟩) (by omega)) (w.heap.size + 1) 3 (.int .i64 0) (by omega)) (w.heap.size + 1) 4 (.slice none 0 0) (by omega)) (w.heap.size + 1) 5 (.slice none 0 0) (by omega)) (w.heap.size + 1) 6 (.slice none 0 0) (by omega))
       replace EF := hid (jB (jB (jB (jB (jB (jB (jB (EF.out) (w.heap.size + 1) 0 (.int .i64 0) (by omega)) (w.heap.size + 1) 1 (.int .i64 n.tok.pos) (by omega)) (w.heap.size + 1) 2 (.string ⟨#[]⟩) (by omega)) (w.heap.size + 1) 3 (.int .i64 0) (by omega)) (w.heap.size + 1) 4 (.slice none 0 0) (by omega)) (w.heap.size + 1) 5 (.slice none 0 0) (by omega)) (w.heap.size + 1) 6 (.slice none 0 0) (by omega))
       replace HB := hid (Below.setCell (Below.setCell (Below.setCell (Below.setCell (Below.setCell (Below.setCell (Below.setCell (HB.out) (p := ⟨w.heap.size + 1, 0, none⟩) (by dsimp only; omega) (.int .i64 0)) (p := ⟨w.heap.size + 1, 1, none⟩) (by dsimp only; omega) (.int .i64 n.tok.pos)) (p := ⟨w.heap.size + 1, 2, none⟩) (by dsimp only; omega) (.string ⟨#[]⟩)) (p := ⟨w.heap.size + 1, 3, none⟩) (by dsimp only; omega) (.int .i64 0)) (p := ⟨w.heap.size + 1, 4, none⟩) (by dsimp only; omega) (.slice none 0 0)) (p := ⟨w.heap.size + 1, 5, none⟩) (by dsimp only; omega) (.slice none 0 0)) (p := ⟨w.heap.size + 1, 6, none⟩) (by dsimp only; omega) (.slice none 0 0))
       have r0 := jA ER.out 0 _ rfl
       have r1 := jA ER.out 1 _ rfl
       have r2 := jA ER.out 2 _ rfl
       have r3 := jA ER.out 3 _ rfl
       have r4 := jA ER.out 4 _ rfl
       have r5 := jA ER.out 5 _ rfl
       have r6 := jA ER.out 6 _ rfl
       refine bodyPost_ret (v := .tuple #[.agg #[.int .i64 0, .int .i64 n.tok.pos, .string ⟨#[]⟩, .int .i64 0, .slice none 0 0, .slice none 0 0, .slice none 0 0], .int .i64 p]) (by simp [results, Try.results28, go_sem, r0, r1, r2, r3, r4, r5, r6]) rfl ?_
       exact jL (by rw [HPE.out, HX.out]) HB.out ⟨_, _, _, _, _, _, _, _, _, _, _, _, _, rfl⟩
     | ok hu =>
       dsimp only
       have HX : Hid (Px.plainExpr (Px.expr f) n = (match Px.each (Px.expr f) n.list.tail with | .error p => .error p | .ok xs => .ok (.mk 7 n.pos m1.text 0 [] xs []))) := hid (by rw [HX1.out, hh])
       clear hh
       have enc0 := jA EN.out 0 _ rfl
       have enc1 := jA EN.out 1 _ rfl
       have enc2 := jA EN.out 2 _ rfl
       have enc3 := jA EN.out 3 _ rfl
       have enc4 := jA EN.out 4 _ rfl
       have enc5 := jA EN.out 5 _ rfl
       have enf := jD EN.out
       have etc0 := jA ET.out 0 _ rfl
       have etc1 := jA ET.out 1 _ rfl
       have etc2 := jA ET.out 2 _ rfl
       have etc3 := jA ET.out 3 _ rfl
       have etc4 := jA ET.out 4 _ rfl
       have etc5 := jA ET.out 5 _ rfl
       have etc6 := jA ET.out 6 _ rfl
       have etf := jD ET.out
       have efc0 := jA EF.out 0 _ rfl
       have efc1 := jA EF.out 1 _ rfl
       have efc2 := jA EF.out 2 _ rfl
       have efc3 := jA EF.out 3 _ rfl
       have efc4 := jA EF.out 4 _ rfl
       have efc5 := jA EF.out 5 _ rfl
       have eff := jD EF.out
       go_wp2_with fail
       go_cut [4] (fun s wx => s = .pointer (some ⟨w.heap.size + 2, 0, none⟩) ∧ wx = ((w3.setCell ⟨w.heap.size + 2, 0, none⟩ (.int .i64 7)).setCell ⟨w.heap.size + 2, 2, none⟩ (.string ⟨m1.tok.text.toArray⟩)).drew)
       case first =>
        go_region
        all_goals (try go_wp2_with fail)
        all_goals (go_meet; exact ⟨rfl, rfl⟩)
       case rest =>
       obtain ⟨rfl, rfl⟩ := hcut
       clear enc0 enc1 enc2 enc3 enc4 enc5 enf etc0 etc1 etc2 etc3 etc4 etc5 etc6 etf efc0 efc1 efc2 efc3 efc4 efc5 eff
       replace EN := hid (jB (jB (EN.out) (w.heap.size + 2) 0 (.int .i64 7) (by omega)) (w.heap.size + 2) 2 (.string ⟨m1.tok.text.toArray⟩) (by omega))
       replace ER := hid (jB (jB (ER.out) (w.heap.size + 2) 0 (.int .i64 7) (by omega)) (w.heap.size + 2) 2 (.string ⟨m1.tok.text.toArray⟩) (by omega))
       replace ET := hid (jG #[.int .i64 7, .int .i64 n.tok.pos, .string ⟨m1.tok.text.toArray⟩, .int .i64 0, .slice none 0 0, .slice none 0 0, .slice none 0 0] (jG #[.int .i64 7, .int .i64 n.tok.pos, .string ⟨#[]⟩, .int .i64 0, .slice none 0 0, .slice none 0 0, .slice none 0 0] (ET.out) 0 (.int .i64 7) rfl) 2 (.string ⟨m1.tok.text.toArray⟩) rfl)
       replace EF := hid (jB (jB (EF.out) (w.heap.size + 2) 0 (.int .i64 7) (by omega)) (w.heap.size + 2) 2 (.string ⟨m1.tok.text.toArray⟩) (by omega))
       replace HB := hid (Below.setCell (Below.setCell (HB.out) (p := ⟨w.heap.size + 2, 0, none⟩) (by dsimp only; omega) (.int .i64 7)) (p := ⟨w.heap.size + 2, 2, none⟩) (by dsimp only; omega) (.string ⟨m1.tok.text.toArray⟩))
       replace EN := ent_drew EN
       replace ER := ent_drew ER
       replace ET := ent_drew ET
       replace EF := ent_drew EF
       replace HB := hid (HB.out.drew)
       replace hsz : w.heap.size + 3 ≤ (((w3.setCell ⟨w.heap.size + 2, 0, none⟩ (.int .i64 7)).setCell ⟨w.heap.size + 2, 2, none⟩ (.string ⟨m1.tok.text.toArray⟩)).drew).heap.size := by simpa using hsz
       generalize (((w3.setCell ⟨w.heap.size + 2, 0, none⟩ (.int .i64 7)).setCell ⟨w.heap.size + 2, 2, none⟩ (.string ⟨m1.tok.text.toArray⟩)).drew) = wz at EN ER ET EF HB hsz ⊢
       have HLO := hid hsz
       have hrow := row_drop (HR.out.mono HB.out (fun u x _ hu => hu.below HB.out)) 1 (by have := HLEN.out.1; omega)
       have hc1 : ¬ c = 1 := by have := HLEN.out.1; omega
       rw [if_neg hc1, List.drop_one] at hrow
       simp only [Nat.one_mul] at hrow
       have hex := exprs_any f k _ n.list.tail _ hrow (by have := HLEN.out.2; rw [List.length_tail]; omega) (fun m hm v w1 hv => HIH.out m (List.mem_of_mem_tail hm) v w1 hv)
       have HEX := hid hex
       clear hrow hex
       have enc0 := jA EN.out 0 _ rfl
       have enc1 := jA EN.out 1 _ rfl
       have enc2 := jA EN.out 2 _ rfl
       have enc3 := jA EN.out 3 _ rfl
       have enc4 := jA EN.out 4 _ rfl
       have enc5 := jA EN.out 5 _ rfl
       have enf := jD EN.out
       go_wp2_with fail
       clear enc0 enc1 enc2 enc3 enc4 enc5 enf
       refine HEX.out.mono ?_
       intro e w4 ht4
       cases hee : Px.each (Px.expr f) n.list.tail with
       | error p =>
         obtain ⟨z, rfl, ⟨zq, zn, zc, rfl⟩, hb⟩ := jN ht4 hee
         have HEE := hid hee; clear ht4 hee
         replace hsz := Nat.le_trans hsz hb.size
         replace EN := hid (jC EN.out hb)
         replace ER := hid (jC ER.out hb)
         replace ET := hid (jC ET.out hb)
         replace EF := hid (jC EF.out hb)
         replace HB := hid (HB.out.trans (hb.mono HB.out.size))
         clear hb
         have erc0 := jA ER.out 0 _ rfl
         have erc1 := jA ER.out 1 _ rfl
         have erc2 := jA ER.out 2 _ rfl
         have erc3 := jA ER.out 3 _ rfl
         have erc4 := jA ER.out 4 _ rfl
         have erc5 := jA ER.out 5 _ rfl
         have erc6 := jA ER.out 6 _ rfl
         have erf := jD ER.out
         have etc0 := jA ET.out 0 _ rfl
         have etc1 := jA ET.out 1 _ rfl
         have etc2 := jA ET.out 2 _ rfl
         have etc3 := jA ET.out 3 _ rfl
         have etc4 := jA ET.out 4 _ rfl
         have etc5 := jA ET.out 5 _ rfl
         have etc6 := jA ET.out 6 _ rfl
         have etf := jD ET.out
         replace EN := hid (jB (EN.out) (w.heap.size + 2) 5 (.slice zq zn zc) (by omega))
         replace ER := hid (jB (ER.out) (w.heap.size + 2) 5 (.slice zq zn zc) (by omega))
         replace ET := hid (jG #[.int .i64 7, .int .i64 n.tok.pos, .string ⟨m1.tok.text.toArray⟩, .int .i64 0, .slice none 0 0, .slice zq zn zc, .slice none 0 0] (ET.out) 5 (.slice zq zn zc) rfl)
         replace EF := hid (jB (EF.out) (w.heap.size + 2) 5 (.slice zq zn zc) (by omega))
         replace HB := hid (Below.setCell (HB.out) (p := ⟨w.heap.size + 2, 5, none⟩) (by dsimp only; omega) (.slice zq zn zc))
         go_wp2_with fail
         replace EN := hid (jB (jB (jB (jB (jB (jB (jB (EN.out) (w.heap.size + 1) 0 (.int .i64 7) (by omega)) (w.heap.size + 1) 1 (.int .i64 n.tok.pos) (by omega)) (w.heap.size + 1) 2 (.string ⟨m1.tok.text.toArray⟩) (by omega)) (w.heap.size + 1) 3 (.int .i64 0) (by omega)) (w.heap.size + 1) 4 (.slice none 0 0) (by omega)) (w.heap.size + 1) 5 (.slice zq zn zc) (by omega)) (w.heap.size + 1) 6 (.slice none 0 0) (by omega))
         replace ER := hid (jU (ER.out) (.int .i64 7) (.int .i64 n.tok.pos) (.string ⟨m1.tok.text.toArray⟩) (.int .i64 0) (.slice none 0 0) (.slice zq zn zc) (.slice none 0 0))
         replace ET := hid (jB (jB (jB (jB (jB (jB (jB (ET.out) (w.heap.size + 1) 0 (.int .i64 7) (by omega)) (w.heap.size + 1) 1 (.int .i64 n.tok.pos) (by omega)) (w.heap.size + 1) 2 (.string ⟨m1.tok.text.toArray⟩) (by omega)) (w.heap.size + 1) 3 (.int .i64 0) (by omega)) (w.heap.size + 1) 4 (.slice none 0 0) (by omega)) (w.heap.size + 1) 5 (.slice zq zn zc) (by omega)) (w.heap.size + 1) 6 (.slice none 0 0) (by omega))
         replace EF := hid (jB (jB (jB (jB (jB (jB (jB (EF.out) (w.heap.size + 1) 0 (.int .i64 7) (by omega)) (w.heap.size + 1) 1 (.int .i64 n.tok.pos) (by omega)) (w.heap.size + 1) 2 (.string ⟨m1.tok.text.toArray⟩) (by omega)) (w.heap.size + 1) 3 (.int .i64 0) (by omega)) (w.heap.size + 1) 4 (.slice none 0 0) (by omega)) (w.heap.size + 1) 5 (.slice zq zn zc) (by omega)) (w.heap.size + 1) 6 (.slice none 0 0) (by omega))
         replace HB := hid (Below.setCell (Below.setCell (Below.setCell (Below.setCell (Below.setCell (Below.setCell (Below.setCell (HB.out) (p := ⟨w.heap.size + 1, 0, none⟩) (by dsimp only; omega) (.int .i64 7)) (p := ⟨w.heap.size + 1, 1, none⟩) (by dsimp only; omega) (.int .i64 n.tok.pos)) (p := ⟨w.heap.size + 1, 2, none⟩) (by dsimp only; omega) (.string ⟨m1.tok.text.toArray⟩)) (p := ⟨w.heap.size + 1, 3, none⟩) (by dsimp only; omega) (.int .i64 0)) (p := ⟨w.heap.size + 1, 4, none⟩) (by dsimp only; omega) (.slice none 0 0)) (p := ⟨w.heap.size + 1, 5, none⟩) (by dsimp only; omega) (.slice zq zn zc)) (p := ⟨w.heap.size + 1, 6, none⟩) (by dsimp only; omega) (.slice none 0 0))
         have r0 := jA ER.out 0 _ rfl
         have r1 := jA ER.out 1 _ rfl
         have r2 := jA ER.out 2 _ rfl
         have r3 := jA ER.out 3 _ rfl
         have r4 := jA ER.out 4 _ rfl
         have r5 := jA ER.out 5 _ rfl
         have r6 := jA ER.out 6 _ rfl
         refine bodyPost_ret (v := .tuple #[.agg #[.int .i64 7, .int .i64 n.tok.pos, .string ⟨m1.tok.text.toArray⟩, .int .i64 0, .slice none 0 0, .slice zq zn zc, .slice none 0 0], .int .i64 p]) (by simp [results, Try.results28, go_sem, r0, r1, r2, r3, r4, r5, r6]) rfl ?_
         exact jL (by rw [HPE.out, HX.out, HEE.out]) HB.out ⟨_, _, _, _, _, _, _, _, _, _, _, _, _, rfl⟩
       | ok xs =>
         obtain ⟨z, rfl, ⟨zq, zn, zc, rfl⟩, hnew, hb⟩ := rtold_ok ht4 hee
         have HEE := hid hee; have HNEW := hid hnew; clear ht4 hee hnew
         have S1 := hid (Stay.set (Stay.refl wz.heap.size w4) (w.heap.size + 2) 5 (.slice zq zn zc) (by have := HLO.out; omega))
         replace hsz := Nat.le_trans hsz hb.size
         replace EN := hid (jC EN.out hb)
         replace ER := hid (jC ER.out hb)
         replace ET := hid (jC ET.out hb)
         replace EF := hid (jC EF.out hb)
         replace HB := hid (HB.out.trans (hb.mono HB.out.size))
         clear hb
         have erc0 := jA ER.out 0 _ rfl
         have erc1 := jA ER.out 1 _ rfl
         have erc2 := jA ER.out 2 _ rfl
         have erc3 := jA ER.out 3 _ rfl
         have erc4 := jA ER.out 4 _ rfl
         have erc5 := jA ER.out 5 _ rfl
         have erc6 := jA ER.out 6 _ rfl
         have erf := jD ER.out
         have etc0 := jA ET.out 0 _ rfl
         have etc1 := jA ET.out 1 _ rfl
         have etc2 := jA ET.out 2 _ rfl
         have etc3 := jA ET.out 3 _ rfl
         have etc4 := jA ET.out 4 _ rfl
         have etc5 := jA ET.out 5 _ rfl
         have etc6 := jA ET.out 6 _ rfl
         have etf := jD ET.out
         replace EN := hid (jB (EN.out) (w.heap.size + 2) 5 (.slice zq zn zc) (by omega))
         replace ER := hid (jB (ER.out) (w.heap.size + 2) 5 (.slice zq zn zc) (by omega))
         replace ET := hid (jG #[.int .i64 7, .int .i64 n.tok.pos, .string ⟨m1.tok.text.toArray⟩, .int .i64 0, .slice none 0 0, .slice zq zn zc, .slice none 0 0] (ET.out) 5 (.slice zq zn zc) rfl)
         replace EF := hid (jB (EF.out) (w.heap.size + 2) 5 (.slice zq zn zc) (by omega))
         replace HB := hid (Below.setCell (HB.out) (p := ⟨w.heap.size + 2, 5, none⟩) (by dsimp only; omega) (.slice zq zn zc))
         go_wp2_with fail
         replace EN := hid (jB (jB (jB (jB (jB (jB (jB (EN.out) (w.heap.size + 1) 0 (.int .i64 7) (by omega)) (w.heap.size + 1) 1 (.int .i64 n.tok.pos) (by omega)) (w.heap.size + 1) 2 (.string ⟨m1.tok.text.toArray⟩) (by omega)) (w.heap.size + 1) 3 (.int .i64 0) (by omega)) (w.heap.size + 1) 4 (.slice none 0 0) (by omega)) (w.heap.size + 1) 5 (.slice zq zn zc) (by omega)) (w.heap.size + 1) 6 (.slice none 0 0) (by omega))
         replace ER := hid (jU (ER.out) (.int .i64 7) (.int .i64 n.tok.pos) (.string ⟨m1.tok.text.toArray⟩) (.int .i64 0) (.slice none 0 0) (.slice zq zn zc) (.slice none 0 0))
         replace ET := hid (jB (jB (jB (jB (jB (jB (jB (ET.out) (w.heap.size + 1) 0 (.int .i64 7) (by omega)) (w.heap.size + 1) 1 (.int .i64 n.tok.pos) (by omega)) (w.heap.size + 1) 2 (.string ⟨m1.tok.text.toArray⟩) (by omega)) (w.heap.size + 1) 3 (.int .i64 0) (by omega)) (w.heap.size + 1) 4 (.slice none 0 0) (by omega)) (w.heap.size + 1) 5 (.slice zq zn zc) (by omega)) (w.heap.size + 1) 6 (.slice none 0 0) (by omega))
         replace EF := hid (jB (jB (jB (jB (jB (jB (jB (EF.out) (w.heap.size + 1) 0 (.int .i64 7) (by omega)) (w.heap.size + 1) 1 (.int .i64 n.tok.pos) (by omega)) (w.heap.size + 1) 2 (.string ⟨m1.tok.text.toArray⟩) (by omega)) (w.heap.size + 1) 3 (.int .i64 0) (by omega)) (w.heap.size + 1) 4 (.slice none 0 0) (by omega)) (w.heap.size + 1) 5 (.slice zq zn zc) (by omega)) (w.heap.size + 1) 6 (.slice none 0 0) (by omega))
         replace HB := hid (Below.setCell (Below.setCell (Below.setCell (Below.setCell (Below.setCell (Below.setCell (Below.setCell (HB.out) (p := ⟨w.heap.size + 1, 0, none⟩) (by dsimp only; omega) (.int .i64 7)) (p := ⟨w.heap.size + 1, 1, none⟩) (by dsimp only; omega) (.int .i64 n.tok.pos)) (p := ⟨w.heap.size + 1, 2, none⟩) (by dsimp only; omega) (.string ⟨m1.tok.text.toArray⟩)) (p := ⟨w.heap.size + 1, 3, none⟩) (by dsimp only; omega) (.int .i64 0)) (p := ⟨w.heap.size + 1, 4, none⟩) (by dsimp only; omega) (.slice none 0 0)) (p := ⟨w.heap.size + 1, 5, none⟩) (by dsimp only; omega) (.slice zq zn zc)) (p := ⟨w.heap.size + 1, 6, none⟩) (by dsimp only; omega) (.slice none 0 0))
         have r0 := jA ER.out 0 _ rfl
         have r1 := jA ER.out 1 _ rfl
         have r2 := jA ER.out 2 _ rfl
         have r3 := jA ER.out 3 _ rfl
         have r4 := jA ER.out 4 _ rfl
         have r5 := jA ER.out 5 _ rfl
         have r6 := jA ER.out 6 _ rfl
         refine bodyPost_ret (v := .tuple #[.agg #[.int .i64 7, .int .i64 n.tok.pos, .string ⟨m1.tok.text.toArray⟩, .int .i64 0, .slice none 0 0, .slice zq zn zc, .slice none 0 0], .int .i64 (-1)]) (by simp [results, Try.results28, go_sem, r0, r1, r2, r3, r4, r5, r6]) rfl ?_
         exact jO (x := Px.Expr.mk 7 n.pos m1.text 0 [] xs []) (by rw [HPE.out, HX.out, HEE.out]) HB.out ⟨_, _, _, _, _, _, _, _, _, _, _, _, _, rfl⟩ (fun u hu => ⟨_, _, _, rfl, .inl ⟨rfl, none, 0, rfl⟩, New.stay HNEW.out (by have := HLO.out; omega) (Stay.set (Stay.set (Stay.set (Stay.set (Stay.set (Stay.set (Stay.set (S1.out) (w.heap.size + 1) 0 _ (by have := HLO.out; omega)) (w.heap.size + 1) 1 _ (by have := HLO.out; omega)) (w.heap.size + 1) 2 _ (by have := HLO.out; omega)) (w.heap.size + 1) 3 _ (by have := HLO.out; omega)) (w.heap.size + 1) 4 _ (by have := HLO.out; omega)) (w.heap.size + 1) 5 _ (by have := HLO.out; omega)) (w.heap.size + 1) 6 _ (by have := HLO.out; omega)) u hu, .inl ⟨rfl, none, 0, rfl⟩⟩)
   · skip
     have hTi : (m1.takes : Int) = 0 := by omega
     have HX1 := hid (HX0.out.trans (if_neg hT))
     clear hT HX0
     have hcb : (!Px.jS m1 && m1.tok.kind == 4) = Px.isConB m1 := by
      have e : Px.jS m1 = (m1.tok.kind == 0) := rfl
      have e2 : Px.isConB m1 = (m1.tok.kind == 4) := rfl
      rw [e, e2]
      by_cases h : m1.tok.kind = 4
      · rw [h]; rfl
      · rw [beq_eq_false_iff_ne.2 h]; simp
     have HCB := hid hcb; clear hcb
     have enc0 := jA EN.out 0 _ rfl
     have enc1 := jA EN.out 1 _ rfl
     have enc2 := jA EN.out 2 _ rfl
     have enc3 := jA EN.out 3 _ rfl
     have enc4 := jA EN.out 4 _ rfl
     have enc5 := jA EN.out 5 _ rfl
     have enf := jD EN.out
     have efc0 := jA EF.out 0 _ rfl
     have efc1 := jA EF.out 1 _ rfl
     have efc2 := jA EF.out 2 _ rfl
     have efc3 := jA EF.out 3 _ rfl
     have efc4 := jA EF.out 4 _ rfl
     have efc5 := jA EF.out 5 _ rfl
     have eff := jD EF.out
     go_wp2_with fail
     clear enc0 enc1 enc2 enc3 enc4 enc5 enf efc0 efc1 efc2 efc3 efc4 efc5 eff
     refine (token_any m1 (.slice pvm1 m1.list.length cvm1) 4 _).mono ?_
     rintro e w3 ⟨rfl, hb⟩
     rw [HCB.out]
     replace hsz := Nat.le_trans hsz hb.size
     replace EN := hid (jC EN.out hb)
     replace ER := hid (jC ER.out hb)
     replace ET := hid (jC ET.out hb)
     replace EF := hid (jC EF.out hb)
     replace HB := hid (HB.out.trans (hb.mono HB.out.size))
     clear hb
     cases hcn : Px.isConB m1 with
     | true =>
       have HX : Hid (Px.plainExpr (Px.expr f) n = (match Px.each (Px.expr f) n.list.tail with | .error p => .error p | .ok xs => .ok (.mk 2 n.pos m1.text 0 [] xs []))) := hid (by rw [HX1.out, if_pos hcn])
       clear hcn
       have enc0 := jA EN.out 0 _ rfl
       have enc1 := jA EN.out 1 _ rfl
       have enc2 := jA EN.out 2 _ rfl
       have enc3 := jA EN.out 3 _ rfl
       have enc4 := jA EN.out 4 _ rfl
       have enc5 := jA EN.out 5 _ rfl
       have enf := jD EN.out
       have etc0 := jA ET.out 0 _ rfl
       have etc1 := jA ET.out 1 _ rfl
       have etc2 := jA ET.out 2 _ rfl
       have etc3 := jA ET.out 3 _ rfl
       have etc4 := jA ET.out 4 _ rfl
       have etc5 := jA ET.out 5 _ rfl
       have etc6 := jA ET.out 6 _ rfl
       have etf := jD ET.out
       have efc0 := jA EF.out 0 _ rfl
       have efc1 := jA EF.out 1 _ rfl
       have efc2 := jA EF.out 2 _ rfl
       have efc3 := jA EF.out 3 _ rfl
       have efc4 := jA EF.out 4 _ rfl
       have efc5 := jA EF.out 5 _ rfl
       have eff := jD EF.out
       go_wp2_with fail
       go_cut [4] (fun s wx => s = .pointer (some ⟨w.heap.size + 2, 0, none⟩) ∧ wx = ((w3.setCell ⟨w.heap.size + 2, 0, none⟩ (.int .i64 2)).setCell ⟨w.heap.size + 2, 2, none⟩ (.string ⟨m1.tok.text.toArray⟩)).drew)
       case first =>
        go_region
        all_goals (try go_wp2_with fail)
        all_goals (go_meet; exact ⟨rfl, rfl⟩)
       case rest =>
       obtain ⟨rfl, rfl⟩ := hcut
       clear enc0 enc1 enc2 enc3 enc4 enc5 enf etc0 etc1 etc2 etc3 etc4 etc5 etc6 etf efc0 efc1 efc2 efc3 efc4 efc5 eff
       replace EN := hid (jB (jB (EN.out) (w.heap.size + 2) 0 (.int .i64 2) (by omega)) (w.heap.size + 2) 2 (.string ⟨m1.tok.text.toArray⟩) (by omega))
       replace ER := hid (jB (jB (ER.out) (w.heap.size + 2) 0 (.int .i64 2) (by omega)) (w.heap.size + 2) 2 (.string ⟨m1.tok.text.toArray⟩) (by omega))
       replace ET := hid (jG #[.int .i64 2, .int .i64 n.tok.pos, .string ⟨m1.tok.text.toArray⟩, .int .i64 0, .slice none 0 0, .slice none 0 0, .slice none 0 0] (jG #[.int .i64 2, .int .i64 n.tok.pos, .string ⟨#[]⟩, .int .i64 0, .slice none 0 0, .slice none 0 0, .slice none 0 0] (ET.out) 0 (.int .i64 2) rfl) 2 (.string ⟨m1.tok.text.toArray⟩) rfl)
       replace EF := hid (jB (jB (EF.out) (w.heap.size + 2) 0 (.int .i64 2) (by omega)) (w.heap.size + 2) 2 (.string ⟨m1.tok.text.toArray⟩) (by omega))
       replace HB := hid (Below.setCell (Below.setCell (HB.out) (p := ⟨w.heap.size + 2, 0, none⟩) (by dsimp only; omega) (.int .i64 2)) (p := ⟨w.heap.size + 2, 2, none⟩) (by dsimp only; omega) (.string ⟨m1.tok.text.toArray⟩))
       replace EN := ent_drew EN
       replace ER := ent_drew ER
       replace ET := ent_drew ET
       replace EF := ent_drew EF
       replace HB := hid (HB.out.drew)
       replace hsz : w.heap.size + 3 ≤ (((w3.setCell ⟨w.heap.size + 2, 0, none⟩ (.int .i64 2)).setCell ⟨w.heap.size + 2, 2, none⟩ (.string ⟨m1.tok.text.toArray⟩)).drew).heap.size := by simpa using hsz
       generalize (((w3.setCell ⟨w.heap.size + 2, 0, none⟩ (.int .i64 2)).setCell ⟨w.heap.size + 2, 2, none⟩ (.string ⟨m1.tok.text.toArray⟩)).drew) = wz at EN ER ET EF HB hsz ⊢
       have HLO := hid hsz
       have hrow := row_drop (HR.out.mono HB.out (fun u x _ hu => hu.below HB.out)) 1 (by have := HLEN.out.1; omega)
       have hc1 : ¬ c = 1 := by have := HLEN.out.1; omega
       rw [if_neg hc1, List.drop_one] at hrow
       simp only [Nat.one_mul] at hrow
       have hex := exprs_any f k _ n.list.tail _ hrow (by have := HLEN.out.2; rw [List.length_tail]; omega) (fun m hm v w1 hv => HIH.out m (List.mem_of_mem_tail hm) v w1 hv)
       have HEX := hid hex
       clear hrow hex
       have enc0 := jA EN.out 0 _ rfl
       have enc1 := jA EN.out 1 _ rfl
       have enc2 := jA EN.out 2 _ rfl
       have enc3 := jA EN.out 3 _ rfl
       have enc4 := jA EN.out 4 _ rfl
       have enc5 := jA EN.out 5 _ rfl
       have enf := jD EN.out
       go_wp2_with fail
       clear enc0 enc1 enc2 enc3 enc4 enc5 enf
       refine HEX.out.mono ?_
       intro e w4 ht4
       cases hee : Px.each (Px.expr f) n.list.tail with
       | error p =>
         obtain ⟨z, rfl, ⟨zq, zn, zc, rfl⟩, hb⟩ := jN ht4 hee
         have HEE := hid hee; clear ht4 hee
         replace hsz := Nat.le_trans hsz hb.size
         replace EN := hid (jC EN.out hb)
         replace ER := hid (jC ER.out hb)
         replace ET := hid (jC ET.out hb)
         replace EF := hid (jC EF.out hb)
         replace HB := hid (HB.out.trans (hb.mono HB.out.size))
         clear hb
         have erc0 := jA ER.out 0 _ rfl
         have erc1 := jA ER.out 1 _ rfl
         have erc2 := jA ER.out 2 _ rfl
         have erc3 := jA ER.out 3 _ rfl
         have erc4 := jA ER.out 4 _ rfl
         have erc5 := jA ER.out 5 _ rfl
         have erc6 := jA ER.out 6 _ rfl
         have erf := jD ER.out
         have etc0 := jA ET.out 0 _ rfl
         have etc1 := jA ET.out 1 _ rfl
         have etc2 := jA ET.out 2 _ rfl
         have etc3 := jA ET.out 3 _ rfl
         have etc4 := jA ET.out 4 _ rfl
         have etc5 := jA ET.out 5 _ rfl
         have etc6 := jA ET.out 6 _ rfl
         have etf := jD ET.out
         replace EN := hid (jB (EN.out) (w.heap.size + 2) 5 (.slice zq zn zc) (by omega))
         replace ER := hid (jB (ER.out) (w.heap.size + 2) 5 (.slice zq zn zc) (by omega))
         replace ET := hid (jG #[.int .i64 2, .int .i64 n.tok.pos, .string ⟨m1.tok.text.toArray⟩, .int .i64 0, .slice none 0 0, .slice zq zn zc, .slice none 0 0] (ET.out) 5 (.slice zq zn zc) rfl)
         replace EF := hid (jB (EF.out) (w.heap.size + 2) 5 (.slice zq zn zc) (by omega))
         replace HB := hid (Below.setCell (HB.out) (p := ⟨w.heap.size + 2, 5, none⟩) (by dsimp only; omega) (.slice zq zn zc))
         go_wp2_with fail
         replace EN := hid (jB (jB (jB (jB (jB (jB (jB (EN.out) (w.heap.size + 1) 0 (.int .i64 2) (by omega)) (w.heap.size + 1) 1 (.int .i64 n.tok.pos) (by omega)) (w.heap.size + 1) 2 (.string ⟨m1.tok.text.toArray⟩) (by omega)) (w.heap.size + 1) 3 (.int .i64 0) (by omega)) (w.heap.size + 1) 4 (.slice none 0 0) (by omega)) (w.heap.size + 1) 5 (.slice zq zn zc) (by omega)) (w.heap.size + 1) 6 (.slice none 0 0) (by omega))
         replace ER := hid (jU (ER.out) (.int .i64 2) (.int .i64 n.tok.pos) (.string ⟨m1.tok.text.toArray⟩) (.int .i64 0) (.slice none 0 0) (.slice zq zn zc) (.slice none 0 0))
         replace ET := hid (jB (jB (jB (jB (jB (jB (jB (ET.out) (w.heap.size + 1) 0 (.int .i64 2) (by omega)) (w.heap.size + 1) 1 (.int .i64 n.tok.pos) (by omega)) (w.heap.size + 1) 2 (.string ⟨m1.tok.text.toArray⟩) (by omega)) (w.heap.size + 1) 3 (.int .i64 0) (by omega)) (w.heap.size + 1) 4 (.slice none 0 0) (by omega)) (w.heap.size + 1) 5 (.slice zq zn zc) (by omega)) (w.heap.size + 1) 6 (.slice none 0 0) (by omega))
         replace EF := hid (jB (jB (jB (jB (jB (jB (jB (EF.out) (w.heap.size + 1) 0 (.int .i64 2) (by omega)) (w.heap.size + 1) 1 (.int .i64 n.tok.pos) (by omega)) (w.heap.size + 1) 2 (.string ⟨m1.tok.text.toArray⟩) (by omega)) (w.heap.size + 1) 3 (.int .i64 0) (by omega)) (w.heap.size + 1) 4 (.slice none 0 0) (by omega)) (w.heap.size + 1) 5 (.slice zq zn zc) (by omega)) (w.heap.size + 1) 6 (.slice none 0 0) (by omega))
         replace HB := hid (Below.setCell (Below.setCell (Below.setCell (Below.setCell (Below.setCell (Below.setCell (Below.setCell (HB.out) (p := ⟨w.heap.size + 1, 0, none⟩) (by dsimp only; omega) (.int .i64 2)) (p := ⟨w.heap.size + 1, 1, none⟩) (by dsimp only; omega) (.int .i64 n.tok.pos)) (p := ⟨w.heap.size + 1, 2, none⟩) (by dsimp only; omega) (.string ⟨m1.tok.text.toArray⟩)) (p := ⟨w.heap.size + 1, 3, none⟩) (by dsimp only; omega) (.int .i64 0)) (p := ⟨w.heap.size + 1, 4, none⟩) (by dsimp only; omega) (.slice none 0 0)) (p := ⟨w.heap.size + 1, 5, none⟩) (by dsimp only; omega) (.slice zq zn zc)) (p := ⟨w.heap.size + 1, 6, none⟩) (by dsimp only; omega) (.slice none 0 0))
         have r0 := jA ER.out 0 _ rfl
         have r1 := jA ER.out 1 _ rfl
         have r2 := jA ER.out 2 _ rfl
         have r3 := jA ER.out 3 _ rfl
         have r4 := jA ER.out 4 _ rfl
         have r5 := jA ER.out 5 _ rfl
         have r6 := jA ER.out 6 _ rfl
         refine bodyPost_ret (v := .tuple #[.agg #[.int .i64 2, .int .i64 n.tok.pos, .string ⟨m1.tok.text.toArray⟩, .int .i64 0, .slice none 0 0, .slice zq zn zc, .slice none 0 0], .int .i64 p]) (by simp [results, Try.results28, go_sem, r0, r1, r2, r3, r4, r5, r6]) rfl ?_
         exact jL (by rw [HPE.out, HX.out, HEE.out]) HB.out ⟨_, _, _, _, _, _, _, _, _, _, _, _, _, rfl⟩
       | ok xs =>
         obtain ⟨z, rfl, ⟨zq, zn, zc, rfl⟩, hnew, hb⟩ := rtold_ok ht4 hee
         have HEE := hid hee; have HNEW := hid hnew; clear ht4 hee hnew
         have S1 := hid (Stay.set (Stay.refl wz.heap.size w4) (w.heap.size + 2) 5 (.slice zq zn zc) (by have := HLO.out; omega))
         replace hsz := Nat.le_trans hsz hb.size
         replace EN := hid (jC EN.out hb)
         replace ER := hid (jC ER.out hb)
         replace ET := hid (jC ET.out hb)
         replace EF := hid (jC EF.out hb)
         replace HB := hid (HB.out.trans (hb.mono HB.out.size))
         clear hb
         have erc0 := jA ER.out 0 _ rfl
         have erc1 := jA ER.out 1 _ rfl
         have erc2 := jA ER.out 2 _ rfl
         have erc3 := jA ER.out 3 _ rfl
         have erc4 := jA ER.out 4 _ rfl
         have erc5 := jA ER.out 5 _ rfl
         have erc6 := jA ER.out 6 _ rfl
         have erf := jD ER.out
         have etc0 := jA ET.out 0 _ rfl
         have etc1 := jA ET.out 1 _ rfl
         have etc2 := jA ET.out 2 _ rfl
         have etc3 := jA ET.out 3 _ rfl
         have etc4 := jA ET.out 4 _ rfl
         have etc5 := jA ET.out 5 _ rfl
         have etc6 := jA ET.out 6 _ rfl
         have etf := jD ET.out
         replace EN := hid (jB (EN.out) (w.heap.size + 2) 5 (.slice zq zn zc) (by omega))
         replace ER := hid (jB (ER.out) (w.heap.size + 2) 5 (.slice zq zn zc) (by omega))
         replace ET := hid (jG #[.int .i64 2, .int .i64 n.tok.pos, .string ⟨m1.tok.text.toArray⟩, .int .i64 0, .slice none 0 0, .slice zq zn zc, .slice none 0 0] (ET.out) 5 (.slice zq zn zc) rfl)
         replace EF := hid (jB (EF.out) (w.heap.size + 2) 5 (.slice zq zn zc) (by omega))
         replace HB := hid (Below.setCell (HB.out) (p := ⟨w.heap.size + 2, 5, none⟩) (by dsimp only; omega) (.slice zq zn zc))
         go_wp2_with fail
         replace EN := hid (jB (jB (jB (jB (jB (jB (jB (EN.out) (w.heap.size + 1) 0 (.int .i64 2) (by omega)) (w.heap.size + 1) 1 (.int .i64 n.tok.pos) (by omega)) (w.heap.size + 1) 2 (.string ⟨m1.tok.text.toArray⟩) (by omega)) (w.heap.size + 1) 3 (.int .i64 0) (by omega)) (w.heap.size + 1) 4 (.slice none 0 0) (by omega)) (w.heap.size + 1) 5 (.slice zq zn zc) (by omega)) (w.heap.size + 1) 6 (.slice none 0 0) (by omega))
         replace ER := hid (jU (ER.out) (.int .i64 2) (.int .i64 n.tok.pos) (.string ⟨m1.tok.text.toArray⟩) (.int .i64 0) (.slice none 0 0) (.slice zq zn zc) (.slice none 0 0))
         replace ET := hid (jB (jB (jB (jB (jB (jB (jB (ET.out) (w.heap.size + 1) 0 (.int .i64 2) (by omega)) (w.heap.size + 1) 1 (.int .i64 n.tok.pos) (by omega)) (w.heap.size + 1) 2 (.string ⟨m1.tok.text.toArray⟩) (by omega)) (w.heap.size + 1) 3 (.int .i64 0) (by omega)) (w.heap.size + 1) 4 (.slice none 0 0) (by omega)) (w.heap.size + 1) 5 (.slice zq zn zc) (by omega)) (w.heap.size + 1) 6 (.slice none 0 0) (by omega))
         replace EF := hid (jB (jB (jB (jB (jB (jB (jB (EF.out) (w.heap.size + 1) 0 (.int .i64 2) (by omega)) (w.heap.size + 1) 1 (.int .i64 n.tok.pos) (by omega)) (w.heap.size + 1) 2 (.string ⟨m1.tok.text.toArray⟩) (by omega)) (w.heap.size + 1) 3 (.int .i64 0) (by omega)) (w.heap.size + 1) 4 (.slice none 0 0) (by omega)) (w.heap.size + 1) 5 (.slice zq zn zc) (by omega)) (w.heap.size + 1) 6 (.slice none 0 0) (by omega))
         replace HB := hid (Below.setCell (Below.setCell (Below.setCell (Below.setCell (Below.setCell (Below.setCell (Below.setCell (HB.out) (p := ⟨w.heap.size + 1, 0, none⟩) (by dsimp only; omega) (.int .i64 2)) (p := ⟨w.heap.size + 1, 1, none⟩) (by dsimp only; omega) (.int .i64 n.tok.pos)) (p := ⟨w.heap.size + 1, 2, none⟩) (by dsimp only; omega) (.string ⟨m1.tok.text.toArray⟩)) (p := ⟨w.heap.size + 1, 3, none⟩) (by dsimp only; omega) (.int .i64 0)) (p := ⟨w.heap.size + 1, 4, none⟩) (by dsimp only; omega) (.slice none 0 0)) (p := ⟨w.heap.size + 1, 5, none⟩) (by dsimp only; omega) (.slice zq zn zc)) (p := ⟨w.heap.size + 1, 6, none⟩) (by dsimp only; omega) (.slice none 0 0))
         have r0 := jA ER.out 0 _ rfl
         have r1 := jA ER.out 1 _ rfl
         have r2 := jA ER.out 2 _ rfl
         have r3 := jA ER.out 3 _ rfl
         have r4 := jA ER.out 4 _ rfl
         have r5 := jA ER.out 5 _ rfl
         have r6 := jA ER.out 6 _ rfl
         refine bodyPost_ret (v := .tuple #[.agg #[.int .i64 2, .int .i64 n.tok.pos, .string ⟨m1.tok.text.toArray⟩, .int .i64 0, .slice none 0 0, .slice zq zn zc, .slice none 0 0], .int .i64 (-1)]) (by simp [results, Try.results28, go_sem, r0, r1, r2, r3, r4, r5, r6]) rfl ?_
         exact jO (x := Px.Expr.mk 2 n.pos m1.text 0 [] xs []) (by rw [HPE.out, HX.out, HEE.out]) HB.out ⟨_, _, _, _, _, _, _, _, _, _, _, _, _, rfl⟩ (fun u hu => ⟨_, _, _, rfl, .inl ⟨rfl, none, 0, rfl⟩, New.stay HNEW.out (by have := HLO.out; omega) (Stay.set (Stay.set (Stay.set (Stay.set (Stay.set (Stay.set (Stay.set (S1.out) (w.heap.size + 1) 0 _ (by have := HLO.out; omega)) (w.heap.size + 1) 1 _ (by have := HLO.out; omega)) (w.heap.size + 1) 2 _ (by have := HLO.out; omega)) (w.heap.size + 1) 3 _ (by have := HLO.out; omega)) (w.heap.size + 1) 4 _ (by have := HLO.out; omega)) (w.heap.size + 1) 5 _ (by have := HLO.out; omega)) (w.heap.size + 1) 6 _ (by have := HLO.out; omega)) u hu, .inl ⟨rfl, none, 0, rfl⟩⟩)
     | false =>
       have HX : Hid (Px.plainExpr (Px.expr f) n = (match Px.each (Px.expr f) n.list with | .error p => .error p | .ok xs => .ok (.mk 6 n.pos [] 0 [] xs []))) := hid (by rw [HX1.out, if_neg (by rw [hcn]; decide)])
       clear hcn
       have etc0 := jA ET.out 0 _ rfl
       have etc1 := jA ET.out 1 _ rfl
       have etc2 := jA ET.out 2 _ rfl
       have etc3 := jA ET.out 3 _ rfl
       have etc4 := jA ET.out 4 _ rfl
       have etc5 := jA ET.out 5 _ rfl
       have etc6 := jA ET.out 6 _ rfl
       have etf := jD ET.out
       clear etc0 etc1 etc2 etc3 etc4 etc5 etc6 etf
       have HLO := hid hsz
       have enc0 := jA EN.out 0 _ rfl
       have enc1 := jA EN.out 1 _ rfl
       have enc2 := jA EN.out 2 _ rfl
       have enc3 := jA EN.out 3 _ rfl
       have enc4 := jA EN.out 4 _ rfl
       have enc5 := jA EN.out 5 _ rfl
       have enf := jD EN.out
       have etc0 := jA ET.out 0 _ rfl
       have etc1 := jA ET.out 1 _ rfl
       have etc2 := jA ET.out 2 _ rfl
       have etc3 := jA ET.out 3 _ rfl
       have etc4 := jA ET.out 4 _ rfl
       have etc5 := jA ET.out 5 _ rfl
       have etc6 := jA ET.out 6 _ rfl
       have etf := jD ET.out
       go_wp2_with fail
       clear enc0 enc1 enc2 enc3 enc4 enc5 enf etc0 etc1 etc2 etc3 etc4 etc5 etc6 etf
       replace EN := hid (jB (EN.out) (w.heap.size + 2) 0 (.int .i64 6) (by omega))
       replace ER := hid (jB (ER.out) (w.heap.size + 2) 0 (.int .i64 6) (by omega))
       replace ET := hid (jG #[.int .i64 6, .int .i64 n.tok.pos, .string ⟨#[]⟩, .int .i64 0, .slice none 0 0, .slice none 0 0, .slice none 0 0] (ET.out) 0 (.int .i64 6) rfl)
       replace EF := hid (jB (EF.out) (w.heap.size + 2) 0 (.int .i64 6) (by omega))
       replace HB := hid (Below.setCell (HB.out) (p := ⟨w.heap.size + 2, 0, none⟩) (by dsimp only; omega) (.int .i64 6))
       replace hsz : w.heap.size + 3 ≤ (w3.setCell ⟨w.heap.size + 2, 0, none⟩ (.int .i64 6)).heap.size := by simpa using hsz
       generalize w3.setCell ⟨w.heap.size + 2, 0, none⟩ (.int .i64 6) = wz at EN ER ET EF HB hsz ⊢
       replace HLO := hid hsz
       have HEX := hid (exprs_any f k _ n.list wz (HR.out.mono HB.out (fun u x _ hu => hu.below HB.out)) (by have := HLEN.out.2; omega) (fun m hm v w1 hv => HIH.out m hm v w1 hv))
       refine HEX.out.mono ?_
       intro e w4 ht4
       cases hee : Px.each (Px.expr f) n.list with
       | error p =>
         obtain ⟨z, rfl, ⟨zq, zn, zc, rfl⟩, hb⟩ := jN ht4 hee
         have HEE := hid hee; clear ht4 hee
         replace hsz := Nat.le_trans hsz hb.size
         replace EN := hid (jC EN.out hb)
         replace ER := hid (jC ER.out hb)
         replace ET := hid (jC ET.out hb)
         replace EF := hid (jC EF.out hb)
         replace HB := hid (HB.out.trans (hb.mono HB.out.size))
         clear hb
         have erc0 := jA ER.out 0 _ rfl
         have erc1 := jA ER.out 1 _ rfl
         have erc2 := jA ER.out 2 _ rfl
         have erc3 := jA ER.out 3 _ rfl
         have erc4 := jA ER.out 4 _ rfl
         have erc5 := jA ER.out 5 _ rfl
         have erc6 := jA ER.out 6 _ rfl
         have erf := jD ER.out
         have etc0 := jA ET.out 0 _ rfl
         have etc1 := jA ET.out 1 _ rfl
         have etc2 := jA ET.out 2 _ rfl
         have etc3 := jA ET.out 3 _ rfl
         have etc4 := jA ET.out 4 _ rfl
         have etc5 := jA ET.out 5 _ rfl
         have etc6 := jA ET.out 6 _ rfl
         have etf := jD ET.out
         replace EN := hid (jB (EN.out) (w.heap.size + 2) 5 (.slice zq zn zc) (by omega))
         replace ER := hid (jB (ER.out) (w.heap.size + 2) 5 (.slice zq zn zc) (by omega))
         replace ET := hid (jG #[.int .i64 6, .int .i64 n.tok.pos, .string ⟨#[]⟩, .int .i64 0, .slice none 0 0, .slice zq zn zc, .slice none 0 0] (ET.out) 5 (.slice zq zn zc) rfl)
         replace EF := hid (jB (EF.out) (w.heap.size + 2) 5 (.slice zq zn zc) (by omega))
         replace HB := hid (Below.setCell (HB.out) (p := ⟨w.heap.size + 2, 5, none⟩) (by dsimp only; omega) (.slice zq zn zc))
         go_wp2_with fail
         replace EN := hid (jB (jB (jB (jB (jB (jB (jB (EN.out) (w.heap.size + 1) 0 (.int .i64 6) (by omega)) (w.heap.size + 1) 1 (.int .i64 n.tok.pos) (by omega)) (w.heap.size + 1) 2 (.string ⟨#[]⟩) (by omega)) (w.heap.size + 1) 3 (.int .i64 0) (by omega)) (w.heap.size + 1) 4 (.slice none 0 0) (by omega)) (w.heap.size + 1) 5 (.slice zq zn zc) (by omega)) (w.heap.size + 1) 6 (.slice none 0 0) (by omega))
         replace ER := hid (jU (ER.out) (.int .i64 6) (.int .i64 n.tok.pos) (.string ⟨#[]⟩) (.int .i64 0) (.slice none 0 0) (.slice zq zn zc) (.slice none 0 0))
         replace ET := hid (jB (jB (jB (jB (jB (jB (jB (ET.out) (w.heap.size + 1) 0 (.int .i64 6) (by omega)) (w.heap.size + 1) 1 (.int .i64 n.tok.pos) (by omega)) (w.heap.size + 1) 2 (.string ⟨#[]⟩) (by omega)) (w.heap.size + 1) 3 (.int .i64 0) (by omega)) (w.heap.size + 1) 4 (.slice none 0 0) (by omega)) (w.heap.size + 1) 5 (.slice zq zn zc) (by omega)) (w.heap.size + 1) 6 (.slice none 0 0) (by omega))
         replace EF := hid (jB (jB (jB (jB (jB (jB (jB (EF.out) (w.heap.size + 1) 0 (.int .i64 6) (by omega)) (w.heap.size + 1) 1 (.int .i64 n.tok.pos) (by omega)) (w.heap.size + 1) 2 (.string ⟨#[]⟩) (by omega)) (w.heap.size + 1) 3 (.int .i64 0) (by omega)) (w.heap.size + 1) 4 (.slice none 0 0) (by omega)) (w.heap.size + 1) 5 (.slice zq zn zc) (by omega)) (w.heap.size + 1) 6 (.slice none 0 0) (by omega))
         replace HB := hid (Below.setCell (Below.setCell (Below.setCell (Below.setCell (Below.setCell (Below.setCell (Below.setCell (HB.out) (p := ⟨w.heap.size + 1, 0, none⟩) (by dsimp only; omega) (.int .i64 6)) (p := ⟨w.heap.size + 1, 1, none⟩) (by dsimp only; omega) (.int .i64 n.tok.pos)) (p := ⟨w.heap.size + 1, 2, none⟩) (by dsimp only; omega) (.string ⟨#[]⟩)) (p := ⟨w.heap.size + 1, 3, none⟩) (by dsimp only; omega) (.int .i64 0)) (p := ⟨w.heap.size + 1, 4, none⟩) (by dsimp only; omega) (.slice none 0 0)) (p := ⟨w.heap.size + 1, 5, none⟩) (by dsimp only; omega) (.slice zq zn zc)) (p := ⟨w.heap.size + 1, 6, none⟩) (by dsimp only; omega) (.slice none 0 0))
         have r0 := jA ER.out 0 _ rfl
         have r1 := jA ER.out 1 _ rfl
         have r2 := jA ER.out 2 _ rfl
         have r3 := jA ER.out 3 _ rfl
         have r4 := jA ER.out 4 _ rfl
         have r5 := jA ER.out 5 _ rfl
         have r6 := jA ER.out 6 _ rfl
         refine bodyPost_ret (v := .tuple #[.agg #[.int .i64 6, .int .i64 n.tok.pos, .string ⟨#[]⟩, .int .i64 0, .slice none 0 0, .slice zq zn zc, .slice none 0 0], .int .i64 p]) (by simp [results, Try.results28, go_sem, r0, r1, r2, r3, r4, r5, r6]) rfl ?_
         exact jL (by rw [HPE.out, HX.out, HEE.out]) HB.out ⟨_, _, _, _, _, _, _, _, _, _, _, _, _, rfl⟩
       | ok xs =>
         obtain ⟨z, rfl, ⟨zq, zn, zc, rfl⟩, hnew, hb⟩ := rtold_ok ht4 hee
         have HEE := hid hee; have HNEW := hid hnew; clear ht4 hee hnew
         have S1 := hid (Stay.set (Stay.refl wz.heap.size w4) (w.heap.size + 2) 5 (.slice zq zn zc) (by have := HLO.out; omega))
         replace hsz := Nat.le_trans hsz hb.size
         replace EN := hid (jC EN.out hb)
         replace ER := hid (jC ER.out hb)
         replace ET := hid (jC ET.out hb)
         replace EF := hid (jC EF.out hb)
         replace HB := hid (HB.out.trans (hb.mono HB.out.size))
         clear hb
         have erc0 := jA ER.out 0 _ rfl
         have erc1 := jA ER.out 1 _ rfl
         have erc2 := jA ER.out 2 _ rfl
         have erc3 := jA ER.out 3 _ rfl
         have erc4 := jA ER.out 4 _ rfl
         have erc5 := jA ER.out 5 _ rfl
         have erc6 := jA ER.out 6 _ rfl
         have erf := jD ER.out
         have etc0 := jA ET.out 0 _ rfl
         have etc1 := jA ET.out 1 _ rfl
         have etc2 := jA ET.out 2 _ rfl
         have etc3 := jA ET.out 3 _ rfl
         have etc4 := jA ET.out 4 _ rfl
         have etc5 := jA ET.out 5 _ rfl
         have etc6 := jA ET.out 6 _ rfl
         have etf := jD ET.out
         replace EN := hid (jB (EN.out) (w.heap.size + 2) 5 (.slice zq zn zc) (by omega))
         replace ER := hid (jB (ER.out) (w.heap.size + 2) 5 (.slice zq zn zc) (by omega))
         replace ET := hid (jG #[.int .i64 6, .int .i64 n.tok.pos, .string ⟨#[]⟩, .int .i64 0, .slice none 0 0, .slice zq zn zc, .slice none 0 0] (ET.out) 5 (.slice zq zn zc) rfl)
         replace EF := hid (jB (EF.out) (w.heap.size + 2) 5 (.slice zq zn zc) (by omega))
         replace HB := hid (Below.setCell (HB.out) (p := ⟨w.heap.size + 2, 5, none⟩) (by dsimp only; omega) (.slice zq zn zc))
         go_wp2_with fail
         replace EN := hid (jB (jB (jB (jB (jB (jB (jB (EN.out) (w.heap.size + 1) 0 (.int .i64 6) (by omega)) (w.heap.size + 1) 1 (.int .i64 n.tok.pos) (by omega)) (w.heap.size + 1) 2 (.string ⟨#[]⟩) (by omega)) (w.heap.size + 1) 3 (.int .i64 0) (by omega)) (w.heap.size + 1) 4 (.slice none 0 0) (by omega)) (w.heap.size + 1) 5 (.slice zq zn zc) (by omega)) (w.heap.size + 1) 6 (.slice none 0 0) (by omega))
         replace ER := hid (jU (ER.out) (.int .i64 6) (.int .i64 n.tok.pos) (.string ⟨#[]⟩) (.int .i64 0) (.slice none 0 0) (.slice zq zn zc) (.slice none 0 0))
         replace ET := hid (jB (jB (jB (jB (jB (jB (jB (ET.out) (w.heap.size + 1) 0 (.int .i64 6) (by omega)) (w.heap.size + 1) 1 (.int .i64 n.tok.pos) (by omega)) (w.heap.size + 1) 2 (.string ⟨#[]⟩) (by omega)) (w.heap.size + 1) 3 (.int .i64 0) (by omega)) (w.heap.size + 1) 4 (.slice none 0 0) (by omega)) (w.heap.size + 1) 5 (.slice zq zn zc) (by omega)) (w.heap.size + 1) 6 (.slice none 0 0) (by omega))
         replace EF := hid (jB (jB (jB (jB (jB (jB (jB (EF.out) (w.heap.size + 1) 0 (.int .i64 6) (by omega)) (w.heap.size + 1) 1 (.int .i64 n.tok.pos) (by omega)) (w.heap.size + 1) 2 (.string ⟨#[]⟩) (by omega)) (w.heap.size + 1) 3 (.int .i64 0) (by omega)) (w.heap.size + 1) 4 (.slice none 0 0) (by omega)) (w.heap.size + 1) 5 (.slice zq zn zc) (by omega)) (w.heap.size + 1) 6 (.slice none 0 0) (by omega))
         replace HB := hid (Below.setCell (Below.setCell (Below.setCell (Below.setCell (Below.setCell (Below.setCell (Below.setCell (HB.out) (p := ⟨w.heap.size + 1, 0, none⟩) (by dsimp only; omega) (.int .i64 6)) (p := ⟨w.heap.size + 1, 1, none⟩) (by dsimp only; omega) (.int .i64 n.tok.pos)) (p := ⟨w.heap.size + 1, 2, none⟩) (by dsimp only; omega) (.string ⟨#[]⟩)) (p := ⟨w.heap.size + 1, 3, none⟩) (by dsimp only; omega) (.int .i64 0)) (p := ⟨w.heap.size + 1, 4, none⟩) (by dsimp only; omega) (.slice none 0 0)) (p := ⟨w.heap.size + 1, 5, none⟩) (by dsimp only; omega) (.slice zq zn zc)) (p := ⟨w.heap.size + 1, 6, none⟩) (by dsimp only; omega) (.slice none 0 0))
         have r0 := jA ER.out 0 _ rfl
         have r1 := jA ER.out 1 _ rfl
         have r2 := jA ER.out 2 _ rfl
         have r3 := jA ER.out 3 _ rfl
         have r4 := jA ER.out 4 _ rfl
         have r5 := jA ER.out 5 _ rfl
         have r6 := jA ER.out 6 _ rfl
         refine bodyPost_ret (v := .tuple #[.agg #[.int .i64 6, .int .i64 n.tok.pos, .string ⟨#[]⟩, .int .i64 0, .slice none 0 0, .slice zq zn zc, .slice none 0 0], .int .i64 (-1)]) (by simp [results, Try.results28, go_sem, r0, r1, r2, r3, r4, r5, r6]) rfl ?_
         exact jO (x := Px.Expr.mk 6 n.pos [] 0 [] xs []) (by rw [HPE.out, HX.out, HEE.out]) HB.out ⟨_, _, _, _, _, _, _, _, _, _, _, _, _, rfl⟩ (fun u hu => ⟨_, _, _, rfl, .inl ⟨rfl, none, 0, rfl⟩, New.stay HNEW.out (by have := HLO.out; omega) (Stay.set (Stay.set (Stay.set (Stay.set (Stay.set (Stay.set (Stay.set (S1.out) (w.heap.size + 1) 0 _ (by have := HLO.out; omega)) (w.heap.size + 1) 1 _ (by have := HLO.out; omega)) (w.heap.size + 1) 2 _ (by have := HLO.out; omega)) (w.heap.size + 1) 3 _ (by have := HLO.out; omega)) (w.heap.size + 1) 4 _ (by have := HLO.out; omega)) (w.heap.size + 1) 5 _ (by have := HLO.out; omega)) (w.heap.size + 1) 6 _ (by have := HLO.out; omega)) u hu, .inl ⟨rfl, none, 0, rfl⟩⟩)
end Go.Proofs.Ytgoacbomphlhjaa

namespace Go.Proofs.Ytgoacbomphlhjaa
open Go.Lib (hid)
open List renaming getElem_toArray → jX, getElem_cons_succ → jY, getElem_cons_zero → jZ, setIfInBounds_toArray → JA, set_cons_zero → JB, set_cons_succ → JC
open Go Go.RowKit
theorem expr_list (f k : Nat) (n : Px.Node) (v : Value) (w : World) (hn : NdAt (k + 1) w v n) (hg : Px.NodeGood n) (hl : Px.jS n = true) (ih : ∀ m ∈ n.list, ∀ v w1, NdAt k w1 v m → Calls Try.prog 28 #[v] w1 (RTold w1 (ExprAt f) ShExpr (Px.expr f m)))
 (hlet : ∀ v w1, NdAt (k + 1) w1 v n → Calls Try.prog 56 #[v] w1 (RTold w1 (ExprAt (f + 1)) ShExpr (Px.letExpr (Px.expr f) n))) (hcase : ∀ v w1, NdAt (k + 1) w1 v n → Calls Try.prog 57 #[v] w1 (RTold w1 (ExprAt (f + 1)) ShExpr (Px.caseExpr f (Px.expr f) n))) :
 Calls Try.prog 28 #[v] w (RTold w (ExprAt (f + 1)) ShExpr (Px.expr (f + 1) n)) := by
 by_cases h1 : Px.word n = [102, 110]
 · exact expr_fn f k n v w hn hg hl h1 (fun v w1 h => fn_any f k n v w1 h hg hl ih)
 · by_cases h2 : Px.word n = [108, 101, 116]
   · exact expr_let f k n v w hn hg hl h1 h2 hlet
   · by_cases h3 : Px.word n = [99, 97, 115, 101]
     · exact expr_cases f k n v w hn hg hl h1 h2 h3 hcase
     · exact expr_plain f k n v w hn hg hl h1 h2 h3 ih
end Go.Proofs.Ytgoacbomphlhjaa
